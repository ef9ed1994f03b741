/-
  Contracts: the model's hash of blocks.
-/
import Derived.Test.YtkpodgeinanceaaE5m
namespace Go.Proofs.Ytkpodgeinanceaa
open Go.ChangeShapes Go.WideShapes Go.ChangeAt Go.RowKit
set_option linter.unusedVariables false

/-- the two words of the block j of bytes -/
def bkH (f : Nat → Nat) (j : Nat) : Nat := nbF (fun i => f (16 * j + i)) 8
def bkL (f : Nat → Nat) (j : Nat) : Nat := nbF (fun i => f (16 * j + (8 + i))) 8
theorem bkH_lt (f : Nat → Nat) (hf : ∀ i, f i < 256) (j : Nat) : bkH f j < 18446744073709551616 := nbF_lt _ (fun i => hf _) 8
theorem bkL_lt (f : Nat → Nat) (hf : ∀ i, f i < 256) (j : Nat) : bkL f j < 18446744073709551616 := nbF_lt _ (fun i => hf _) 8
/-- the hash of the first j blocks, as two words -/
def ghF (kh kl : Nat) (f : Nat → Nat) : Nat → Nat × Nat
  | 0 => (0, 0)
  | j + 1 => ouP ((ghF kh kl f j).1 ^^^ bkH f j) ((ghF kh kl f j).2 ^^^ bkL f j) kh kl 128
theorem ghF_lt (kh kl : Nat) (f : Nat → Nat) (h1 : kh < 18446744073709551616) (h2 : kl < 18446744073709551616) : ∀ j, (ghF kh kl f j).1 < 18446744073709551616 ∧ (ghF kh kl f j).2 < 18446744073709551616
  | 0 => ⟨by show 0 < _; omega, by show 0 < _; omega⟩
  | j + 1 => ouP_lt _ _ kh kl h1 h2 128
theorem hiW_at (s : ByteArray) (p : Nat) (hp : p + 16 ≤ s.size) : hiW (s.extract p (p + 16)) = nbF (fun i => at8 s (p + i)) 8 := by
  rw [← nbF_hi _ (by rw [ByteArray.size_extract]; omega)]
  have : ∀ k, k ≤ 8 → nbF (at8 (s.extract p (p + 16))) k = nbF (fun i => at8 s (p + i)) k := fun k => by
    induction k with
    | zero => intro _; rfl
    | succ k ih => intro h; rw [nbF, nbF, ih (by omega), at8_extract s p (p + 16) k hp (by omega)]
  exact this 8 (by omega)
theorem lo5W_at (s : ByteArray) (p : Nat) (hp : p + 16 ≤ s.size) : lo5W (s.extract p (p + 16)) = nbF (fun i => at8 s (p + (8 + i))) 8 := by
  rw [← nbF_lo _ (by rw [ByteArray.size_extract]; omega)]
  have : ∀ k, k ≤ 8 → nbF (fun i => at8 (s.extract p (p + 16)) (8 + i)) k = nbF (fun i => at8 s (p + (8 + i))) k := fun k => by
    induction k with
    | zero => intro _; rfl
    | succ k ih => intro h; rw [nbF, nbF, ih (by omega), at8_extract s p (p + 16) (8 + k) hp (by omega)]
  exact this 8 (by omega)
set_option maxRecDepth 100000 in
set_option maxHeartbeats 1000000 in
theorem specGhash (h s : ByteArray) (n : Nat) (hh : h.size = 16) (hs : s.size = 16 * n) (hn : n ≤ 1000) (w : World) :
    Calls Try.prog 78 #[.string h, .string s] w fun e w' => e = .returned (.agg #[.int .u64 ((ghF (hiW h) (lo5W h) (at8 s) n).1 : Nat), .int .u64 ((ghF (hiW h) (lo5W h) (at8 s) n).2 : Nat)]) ∧ Below w.heap.size w w' := by
  have H1 := hide (fun W => specOf h hh W)
  have H2 : Hid (∀ j, j < n → ∀ W, Calls Try.prog 96 #[.string (s.extract (16 * j) (16 * j + 16))] W fun e w' => e = .returned (.agg #[.int .u64 (bkH (at8 s) j : Nat), .int .u64 (bkL (at8 s) j : Nat)]) ∧ Below W.heap.size W w') := fun j hj W => by
    have := specOf (s.extract (16 * j) (16 * j + 16)) (by rw [ByteArray.size_extract]; omega) W
    rw [hiW_at s (16 * j) (by omega), lo5W_at s (16 * j) (by omega)] at this
    exact this
  have HK1 := hiW_lt h
  have HK2 := lo5W_lt h
  have HB1 := hide (fun j => bkH_lt (at8 s) (at8_lt s) j)
  have HB2 := hide (fun j => bkL_lt (at8 s) (at8_lt s) j)
  have HG := hide (fun j => ghF_lt (hiW h) (lo5W h) (at8 s) HK1 HK2 j)
  have HS : Hid (∀ j, ghF (hiW h) (lo5W h) (at8 s) (j + 1) = ouP ((ghF (hiW h) (lo5W h) (at8 s) j).1 ^^^ bkH (at8 s) j) ((ghF (hiW h) (lo5W h) (at8 s) j).2 ^^^ bkL (at8 s) j) (hiW h) (lo5W h) 128) := fun j => rfl
  have HZ : Hid (ghF (hiW h) (lo5W h) (at8 s) 0 = (0, 0)) := rfl
  generalize ghF (hiW h) (lo5W h) (at8 s) = GH at *
  generalize hiW h = kh at *
  generalize lo5W h = kl at *
  generalize bkH (at8 s) = BH at *
  generalize bkL (at8 s) = BL at *
  go_enter Try.func78, Try.ntmps78
  go_wp2_with fail
  have d0 : Q2 (w.alloc (.cells #[.int .u64 0, .int .u64 0] 113)) w.heap.size 0 0 := q2_own w 0 0 _
  have e0 := (Below.refl w.heap.size w).alloc (Nat.le_refl _) (.cells #[.int .u64 0, .int .u64 0] 113)
  have z0 : (w.alloc (.cells #[.int .u64 0, .int .u64 0] 113)).heap.size = w.heap.size + 1 := by simp
  generalize w.alloc (.cells #[.int .u64 0, .int .u64 0] 113) = W0 at d0 e0 z0 ⊢
  have d1 : Q2 (W0.alloc (.cells #[.int .u64 0, .int .u64 0] 113)) W0.heap.size 0 0 := q2_own W0 0 0 _
  have d0' := d0.alloc (.cells #[.int .u64 0, .int .u64 0] 113) (by omega)
  have e1 := e0.alloc (by omega) (.cells #[.int .u64 0, .int .u64 0] 113)
  have z1 : (W0.alloc (.cells #[.int .u64 0, .int .u64 0] 113)).heap.size = w.heap.size + 1 + 1 := by simp [z0]
  rw [z0] at d1
  generalize W0.alloc (.cells #[.int .u64 0, .int .u64 0] 113) = W1 at d0' d1 e1 z1 ⊢
  refine (unhide H1 _).mono ?_
  rintro e w1 ⟨rfl, b1⟩
  have d2 := d0'.keep b1 (by omega)
  have d3 := d1.keep b1 (by omega)
  have e2 := e1.trans (b1.mono e1.size)
  have z2 : w.heap.size + 1 + 1 ≤ w1.heap.size := by have := b1.size; omega
  clear d0 e0 z0 d1 d0' e1 z1 b1
  go_wp2_with fail
  have d4 := q2_own w1 kh kl 113
  have f0 := hide (d2.alloc (.cells #[.int .u64 (kh : Nat), .int .u64 (kl : Nat)] 113) (by omega))
  have f1 := hide (d3.alloc (.cells #[.int .u64 (kh : Nat), .int .u64 (kl : Nat)] 113) (by omega))
  have e3 := hide (e2.alloc e2.size (.cells #[.int .u64 (kh : Nat), .int .u64 (kl : Nat)] 113))
  have f2 := hide d4
  have z3 : Hid (w1.heap.size < (w1.alloc (.cells #[.int .u64 (kh : Nat), .int .u64 (kl : Nat)] 113)).heap.size) := by rw [World.size_alloc]; exact Nat.lt_succ_self _
  generalize w1.alloc (.cells #[.int .u64 (kh : Nat), .int .u64 (kl : Nat)] 113) = W3 at f0 f1 f2 e3 z3 ⊢
  clear d2 d3 e2 d4
  generalize w1.heap.size = gk at *
  go_loopw [7] (fun av wr => ∃ j a : Nat, j ≤ n ∧ a = 16 * j ∧ av = .int .i64 a ∧ Q2 wr w.heap.size 0 0 ∧ Q2 wr (w.heap.size + 1) (GH j).1 (GH j).2 ∧ Q2 wr gk kh kl ∧ gk < wr.heap.size ∧ Below w.heap.size w wr) (fun av _ => 20000 - (intOf av).toNat)
  case atStart => exact ⟨0, 0, by omega, rfl, rfl, unhide f0, by rw [unhide HZ]; exact unhide f1, unhide f2, unhide z3, unhide e3⟩
  case round =>
    obtain ⟨j, a, hj, ha, rfl, q0, q1, q2, hgk, hB⟩ := hrel
    clear f0 f1 f2 e3 z3
    by_cases hlt : j < n
    · have HO := hide (unhide H2 j hlt)
      rw [← ha] at HO
      have hl1 := unhide HG j
      have hl2 := unhide HB1 j
      have hl3 := unhide HB2 j
      have HM := hide (fun W => specMulB ((GH j).1 ^^^ BH j) ((GH j).2 ^^^ BL j) kh kl (Nat.xor_lt_two_pow (n := 64) hl1.1 hl2) (Nat.xor_lt_two_pow (n := 64) hl1.2 hl3) HK1 HK2 W)
      rw [← unhide HS j] at HM
      have x1 := hide (xor64 (GH j).1 (BH j) hl1.1 hl2)
      have x2 := hide (xor64 (GH j).2 (BL j) hl1.2 hl3)
      have ha1 : a < s.size := by omega
      have ha2 : a + 16 ≤ s.size := by omega
      have haI : (a : Int) < (s.size : Int) := by omega
      have haJ : (a : Int) + 16 ≤ (s.size : Int) := by omega
      have R0 := hide q0
      have R1 := hide q1
      have R2 := hide q2
      have RB := hide hB
      have HAJ := hide ha
      clear ha q0 q1 q2 hB hl1 hl2 hl3
      generalize (GH j).1 = Y1 at *
      generalize (GH j).2 = Y2 at *
      generalize BH j = X1 at *
      generalize BL j = X2 at *
      go_wp2_with fail
      refine (unhide HO _).mono ?_
      rintro e w4 ⟨rfl, b4⟩
      have V0 := (unhide R0).keep b4 (by omega)
      have V1 := (unhide R1).keep b4 (by omega)
      have V2 := (unhide R2).keep b4 hgk
      have VB := (unhide RB).trans (b4.mono (unhide RB).size)
      have hz4 : gk < w4.heap.size := Nat.lt_of_lt_of_le hgk b4.size
      have v0 := V0.alloc (.cells #[.int .u64 (X1 : Nat), .int .u64 (X2 : Nat)] 113) (by omega)
      have v1 := V1.alloc (.cells #[.int .u64 (X1 : Nat), .int .u64 (X2 : Nat)] 113) (by omega)
      have v2 := V2.alloc (.cells #[.int .u64 (X1 : Nat), .int .u64 (X2 : Nat)] 113) hz4
      have v3 := q2_own w4 X1 X2 113
      have vb := VB.alloc VB.size (.cells #[.int .u64 (X1 : Nat), .int .u64 (X2 : Nat)] 113)
      have hz5 : gk < (w4.alloc (.cells #[.int .u64 (X1 : Nat), .int .u64 (X2 : Nat)] 113)).heap.size := by rw [World.size_alloc]; omega
      clear b4 V0 V1 V2 VB R0 R1 R2 RB
      go_upto_region 7 with fail
      generalize w4.alloc (.cells #[.int .u64 (X1 : Nat), .int .u64 (X2 : Nat)] 113) = W5 at v0 v1 v2 v3 vb hz5 ⊢
      have hne : w4.heap.size ≠ w.heap.size + 1 := by omega
      generalize w4.heap.size = gx at *
      have k0 := v1.c0
      have k1 := v1.c1
      have k2 := v1.f0
      have k3 := v1.f1
      have k4 := v3.c0
      have k5 := v3.c1
      have k6 := v2.c0
      have k7 := v2.c1
      have T0 := hide ((v0.other (b' := w.heap.size + 1) (k := 0) (v := .int .u64 ((Y1 ^^^ X1 : Nat) : Int)) (by omega)).other (b' := w.heap.size + 1) (k := 1) (v := .int .u64 ((Y2 ^^^ X2 : Nat) : Int)) (by omega))
      have T1 := hide ((v1.put0 (Y1 ^^^ X1)).put1 (Y2 ^^^ X2))
      have T2 := hide ((v2.other (b' := w.heap.size + 1) (k := 0) (v := .int .u64 ((Y1 ^^^ X1 : Nat) : Int)) (by omega)).other (b' := w.heap.size + 1) (k := 1) (v := .int .u64 ((Y2 ^^^ X2 : Nat) : Int)) (by omega))
      have TB := hide ((vb.setCell (p := ⟨w.heap.size + 1, 0, none⟩) (show w.heap.size ≤ w.heap.size + 1 by omega) (.int .u64 ((Y1 ^^^ X1 : Nat) : Int))).setCell (p := ⟨w.heap.size + 1, 1, none⟩) (show w.heap.size ≤ w.heap.size + 1 by omega) (.int .u64 ((Y2 ^^^ X2 : Nat) : Int)))
      have hz6 : Hid (gk < ((W5.setCell ⟨w.heap.size + 1, 0, none⟩ (.int .u64 ((Y1 ^^^ X1 : Nat) : Int))).setCell ⟨w.heap.size + 1, 1, none⟩ (.int .u64 ((Y2 ^^^ X2 : Nat) : Int))).heap.size) := by
        simp only [World.setCell, Array.size_modify]
        exact hz5
      clear v0 v1 v2 v3 vb hz5
      go_wp2_with fail
      rw [unhide x1, unhide x2]
      generalize (W5.setCell ⟨w.heap.size + 1, 0, none⟩ (.int .u64 ((Y1 ^^^ X1 : Nat) : Int))).setCell ⟨w.heap.size + 1, 1, none⟩ (.int .u64 ((Y2 ^^^ X2 : Nat) : Int)) = W6 at T0 T1 T2 TB hz6 ⊢
      clear k0 k1 k2 k3 k4 k5 k6 k7
      refine (unhide HM _).mono ?_
      rintro e w7 ⟨rfl, b7⟩
      have hz6' := unhide hz6
      have m0 := (unhide T0).keep b7 (by omega)
      have m1 := (unhide T1).keep b7 (by omega)
      have m2 := (unhide T2).keep b7 hz6'
      have mb := (unhide TB).trans (b7.mono (unhide TB).size)
      have hz7 : gk < w7.heap.size := Nat.lt_of_lt_of_le hz6' b7.size
      clear T0 T1 T2 TB hz6 hz6' b7
      have k0 := m1.c0
      have k1 := m1.c1
      have k2 := m1.f0
      have k3 := m1.f1
      have N0 := hide ((m0.other (b' := w.heap.size + 1) (k := 0) (v := .int .u64 ((GH (j + 1)).1 : Nat)) (by omega)).other (b' := w.heap.size + 1) (k := 1) (v := .int .u64 ((GH (j + 1)).2 : Nat)) (by omega))
      have N1 := hide ((m1.put0 (GH (j + 1)).1).put1 (GH (j + 1)).2)
      have N2 := hide ((m2.other (b' := w.heap.size + 1) (k := 0) (v := .int .u64 ((GH (j + 1)).1 : Nat)) (by omega)).other (b' := w.heap.size + 1) (k := 1) (v := .int .u64 ((GH (j + 1)).2 : Nat)) (by omega))
      have NB := hide ((mb.setCell (p := ⟨w.heap.size + 1, 0, none⟩) (show w.heap.size ≤ w.heap.size + 1 by omega) (.int .u64 ((GH (j + 1)).1 : Nat))).setCell (p := ⟨w.heap.size + 1, 1, none⟩) (show w.heap.size ≤ w.heap.size + 1 by omega) (.int .u64 ((GH (j + 1)).2 : Nat)))
      have hz8 : Hid (gk < ((w7.setCell ⟨w.heap.size + 1, 0, none⟩ (.int .u64 ((GH (j + 1)).1 : Nat))).setCell ⟨w.heap.size + 1, 1, none⟩ (.int .u64 ((GH (j + 1)).2 : Nat))).heap.size) := by
        simp only [World.setCell, Array.size_modify]
        exact hz7
      clear m0 m1 m2 mb hz7
      go_wp2
      exact ⟨⟨j + 1, a + 16, by omega, by have := unhide HAJ; omega, by go_num, unhide N0, unhide N1, unhide N2, unhide hz8, unhide NB⟩, by simp [intOf]; omega⟩
    · obtain rfl : j = n := by omega
      have haI : ¬ (a : Int) < (s.size : Int) := by omega
      have c0 := q1.c0
      have c1 := q1.c1
      have g0 := q0.f0
      have g1 := q0.f1
      have k0 := q0.c0
      have k1 := q0.c1
      have R := hide ((q0.put0 (GH j).1).put1 (GH j).2)
      have B := hide ((hB.setCell (p := ⟨w.heap.size, 0, none⟩) (Nat.le_refl _) (.int .u64 ((GH j).1 : Nat))).setCell (p := ⟨w.heap.size, 1, none⟩) (Nat.le_refl _) (.int .u64 ((GH j).2 : Nat)))
      have HAJ := hide ha
      clear q0 q1 q2 hB ha
      go_wp2
      refine ret_two 4 w.heap.size (GH j).1 (GH j).2 113 _ ?r1 ?r2 ?r3 (unhide R) Try.underlying113 rfl info_l5 ?_
      case r1 => rfl
      case r2 => rfl
      case r3 => rfl
      exact ⟨rfl, unhide B⟩
end Go.Proofs.Ytkpodgeinanceaa
