/-
  Contracts: the program's blocks as two words. Contracts: the program's words told as a block, xored, and times x. Contracts: the program's product of two blocks. Contracts: the program's MulBlock.
-/
import Derived.Test.YtgoafbhhihfkfaaL5wX
import Derived.Test.YtgoafbhhihfkfaaAboX
import Derived.Test.YtgoafbhhihfkfaaL5yX
import Derived.Test.YtgoafbhhihfkfaaGfpX
namespace Go.Proofs.Ytgoafbhhihfkfaa
open Go.ChangeShapes Go.WideShapes Go.ChangeAt Go.RowKit
set_option linter.unusedVariables false

/-- the number of k bytes -/
def nbF (f : Nat → Nat) : Nat → Nat
  | 0 => 0
  | k + 1 => nbF f k * 256 + f k
theorem nbF_lt (f : Nat → Nat) (hf : ∀ i, f i < 256) : ∀ k, nbF f k < 256 ^ k
  | 0 => by simp [nbF]
  | k + 1 => by
    have h1 := nbF_lt f hf k
    have h2 := hf k
    rw [nbF, Nat.pow_succ]
    omega
theorem orU (n c : Nat) (hn : n < 72057594037927936) (hc : c < 256) : bits .or .u64 ((n : Int) * 256) (c : Int) = ((n * 256 + c : Nat) : Int) := by
  have h1 := Nat.two_pow_add_eq_or_of_lt (i := 8) (b := c) (by omega) n
  show IntKind.u64.wrap (((BitVec.ofInt 64 ((n : Int) * 256) ||| BitVec.ofInt 64 (c : Int)).toNat : Nat) : Int) = _
  rw [BitVec.toNat_or, BitVec.toNat_ofInt, BitVec.toNat_ofInt, show ((n : Int) * 256 % ((2 ^ 64 : Nat) : Int)).toNat = 2 ^ 8 * n by omega, show ((c : Int) % ((2 ^ 64 : Nat) : Int)).toNat = c by omega, ← h1, IntKind.wrap_u64]
  omega
theorem Q2.drew {w : World} {b x y : Nat} (h : Q2 w b x y) : Q2 w.drew b x y := ⟨h.c0, h.c1, h.f0, h.f1⟩
theorem info_el : (Try.prog.info? 40).map (·.size) = some 2 := by kernel_rfl
set_option maxRecDepth 100000 in
set_option maxHeartbeats 1000000 in
theorem implElementOf (b o n cap : Nat) (f : Nat → Nat) (hf : ∀ i, f i < 256) (hn : 16 ≤ n) (hnm : n ≤ 1048576) (w : World) (hA : Ar w b o 16 f) :
    Calls Try.prog 26 #[.slice (some ⟨b, o, none⟩) n cap] w fun e w' => e = .returned (.agg #[.int .u64 (nbF f 8 : Nat), .int .u64 (nbF (fun i => f (8 + i)) 8 : Nat)]) ∧ Below w.heap.size w w' := by
  have HA := hide hA
  have HF := hide hf
  have HN1 := hide (fun k => nbF_lt f hf k)
  have HN2 := hide (fun k => nbF_lt (fun i => f (8 + i)) (fun i => hf _) k)
  have HS1 : Hid (∀ k, nbF f (k + 1) = nbF f k * 256 + f k) := fun k => rfl
  have HS2 : Hid (∀ k, nbF (fun i => f (8 + i)) (k + 1) = nbF (fun i => f (8 + i)) k * 256 + f (8 + k)) := fun k => rfl
  have HZ1 : Hid (nbF f 0 = 0) := rfl
  have HZ2 : Hid (nbF (fun i => f (8 + i)) 0 = 0) := rfl
  generalize nbF (fun i => f (8 + i)) = L at *
  generalize nbF f = H at *
  clear hA hf
  go_enter Try.func26, Try.ntmps26
  go_wp2_with fail
  have d0 : Q2 (w.alloc (.cells #[.int .u64 0, .int .u64 0] 40)) w.heap.size 0 0 := q2_own w 0 0 _
  have e0 := (Below.refl w.heap.size w).alloc (Nat.le_refl _) (.cells #[.int .u64 0, .int .u64 0] 40)
  have z0 : (w.alloc (.cells #[.int .u64 0, .int .u64 0] 40)).heap.size = w.heap.size + 1 := by simp
  generalize w.alloc (.cells #[.int .u64 0, .int .u64 0] 40) = W0 at d0 e0 z0 ⊢
  have d1 : Q2 (W0.alloc (.cells #[.int .u64 0, .int .u64 0] 40)) W0.heap.size 0 0 := q2_own W0 0 0 _
  have f0 := hide (d0.alloc (.cells #[.int .u64 0, .int .u64 0] 40) (by omega))
  have e1 := hide (e0.alloc (by omega) (.cells #[.int .u64 0, .int .u64 0] 40))
  rw [z0] at d1
  have f1 := hide d1
  generalize W0.alloc (.cells #[.int .u64 0, .int .u64 0] 40) = W1 at f0 f1 e1 ⊢
  clear d0 e0 z0 d1
  go_loopw [5] (fun iv wr => ∃ i : Nat, i ≤ 8 ∧ iv = .int .i64 i ∧ Q2 wr w.heap.size 0 0 ∧ Q2 wr (w.heap.size + 1) (H i) (L i) ∧ Below w.heap.size w wr) (fun iv _ => 8 - (intOf iv).toNat)
  case atStart => exact ⟨0, by omega, rfl, unhide f0, by rw [unhide HZ1, unhide HZ2]; exact unhide f1, unhide e1⟩
  case round =>
    obtain ⟨i, hi, rfl, q0, q1, hB⟩ := hrel
    clear f0 f1 e1
    by_cases hlt : i < 8
    · have h4 : 256 ^ i ≤ 256 ^ 7 := Nat.pow_le_pow_right (by omega) (by omega)
      have hb1 : H i < 72057594037927936 := by have := unhide HN1 i; omega
      have hb2 : L i < 72057594037927936 := by have := unhide HN2 i; omega
      have a1 := ((unhide HA).below hB (unhide HA).lt).c i (by omega)
      have a2 := ((unhide HA).below hB (unhide HA).lt).c (8 + i) (by omega)
      have x1 := unhide HF i
      have x2 := unhide HF (8 + i)
      have o1 := hide (orU (H i) (f i) hb1 x1)
      have o2 := hide (orU (L i) (f (8 + i)) hb2 x2)
      have s1 := hide (unhide HS1 i)
      have s2 := hide (unhide HS2 i)
      have c0 := q1.c0
      have c1 := q1.c1
      have g0 := q1.f0
      have g1 := q1.f1
      have r0 := hide ((q0.other (b' := w.heap.size + 1) (k := 0) (v := .int .u64 ((H i * 256 + f i : Nat) : Int)) (by omega)).other (b' := w.heap.size + 1) (k := 1) (v := .int .u64 ((L i * 256 + f (8 + i) : Nat) : Int)) (by omega)).drew.drew
      have r1 := hide ((q1.put0 (H i * 256 + f i)).put1 (L i * 256 + f (8 + i))).drew.drew
      have r2 := hide ((hB.setCell (p := ⟨w.heap.size + 1, 0, none⟩) (show w.heap.size ≤ w.heap.size + 1 by omega) (.int .u64 ((H i * 256 + f i : Nat) : Int))).setCell (p := ⟨w.heap.size + 1, 1, none⟩) (show w.heap.size ≤ w.heap.size + 1 by omega) (.int .u64 ((L i * 256 + f (8 + i) : Nat) : Int))).drew.drew
      rw [← unhide o1, ← unhide o2] at r0 r1 r2
      clear h4 q0 q1 hB
      obtain ⟨q, hq⟩ : ∃ q : Nat, q = 8 + i := ⟨_, rfl⟩
      have hqI : 8 + (i : Int) = (q : Int) := by omega
      have n1 : (0 : Int) ≤ (i : Int) ∧ (i : Int) < n := by omega
      have n2 : (0 : Int) ≤ (q : Int) ∧ (q : Int) < n := by omega
      rw [← hq] at a2 x2 o2 s2 r0 r1 r2
      have v1 : IntKind.i64.wrap (8 + (i : Int)) = (q : Int) := by rw [hqI]; exact wraps_i64 _ (by omega) (by omega)
      have HQ := hide hq
      clear hq
      generalize f q = y at *
      generalize f i = x at *
      generalize H i = h at *
      generalize L i = l at *
      go_wp2_with fail
      go_region
      go_wp2_with fail
      go_region
      go_wp2
      exact ⟨⟨i + 1, by omega, by go_num, unhide r0, by rw [unhide s1, unhide s2]; exact unhide r1, unhide r2⟩, by simp [intOf]; omega⟩
    · obtain rfl : i = 8 := by omega
      have c0 := q1.c0
      have c1 := q1.c1
      have g0 := q0.f0
      have g1 := q0.f1
      have k0 := q0.c0
      have k1 := q0.c1
      have R := hide ((q0.put0 (H 8)).put1 (L 8))
      have B := hide ((hB.setCell (p := ⟨w.heap.size, 0, none⟩) (Nat.le_refl _) (.int .u64 (H 8 : Nat))).setCell (p := ⟨w.heap.size, 1, none⟩) (Nat.le_refl _) (.int .u64 (L 8 : Nat)))
      clear q0 q1 hB
      go_wp2
      refine ret_two 2 w.heap.size (H 8) (L 8) 40 _ ?r1 ?r2 ?r3 (unhide R) Try.underlying40 rfl info_el ?_
      case r1 => rfl
      case r2 => rfl
      case r3 => rfl
      exact ⟨rfl, unhide B⟩
end Go.Proofs.Ytgoafbhhihfkfaa
namespace Go.Proofs.Ytgoafbhhihfkfaa
open Go.ChangeShapes Go.WideShapes Go.ChangeAt Go.RowKit
set_option linter.unusedVariables false

/-- two words as sixteen bytes -/
def blF (h l i : Nat) : Nat := if i < 8 then byN h (7 - i) else byN l (15 - i)
theorem blF_lt (h l i : Nat) : blF h l i < 256 := by unfold blF; split <;> exact byN_lt _ _
/-- a block of which k bytes of each word are told -/
def blK (h l k i : Nat) : Nat := if i < 8 then (if i < k then byN h (7 - i) else 0) else if i - 8 < k then byN l (15 - i) else 0
theorem blK_end (h l i : Nat) (hi : i < 16) : blK h l 8 i = blF h l i := by
  unfold blK blF
  by_cases e : i < 8
  · rw [if_pos e, if_pos e, if_pos e]
  · rw [if_neg e, if_neg e, if_pos (by omega)]
theorem byU_int (h k j : Nat) (hh : h < 18446744073709551616) (hk : j = 8 * k) : IntKind.u8.wrap ((h : Int) / 2 ^ j) = ((byN h k : Nat) : Int) := by
  subst hk
  unfold byN
  rw [wrap_u8, show (256 : Nat) ^ k = 2 ^ (8 * k) by rw [Nat.pow_mul]]
  simp
set_option maxRecDepth 100000 in
set_option maxHeartbeats 1000000 in
theorem implBlock (h l : Nat) (hh : h < 18446744073709551616) (hl : l < 18446744073709551616) (w : World) :
    Calls Try.prog 28 #[.agg #[.int .u64 (h : Nat), .int .u64 (l : Nat)]] w fun e w' => e = .returned (.agg (us 16 (blF h l)).toArray) ∧ Below w.heap.size w w' := by
  have HI1 := hide (fun k j (hk : j = 8 * k) => byU_int h k j hh hk)
  have HI2 := hide (fun k j (hk : j = 8 * k) => byU_int l k j hl hk)
  have HE := hide (fun i (hi : i < 16) => blK_end h l i hi)
  go_enter Try.func28, Try.ntmps28
  go_wp2_with fail
  have d0 := q2_own w h l 40
  have e0 := (Below.refl w.heap.size w).alloc (Nat.le_refl _) (.cells #[.int .u64 (h : Nat), .int .u64 (l : Nat)] 40)
  have z0 : (w.alloc (.cells #[.int .u64 (h : Nat), .int .u64 (l : Nat)] 40)).heap.size = w.heap.size + 1 := by simp
  generalize w.alloc (.cells #[.int .u64 (h : Nat), .int .u64 (l : Nat)] 40) = W0 at d0 e0 z0 ⊢
  have d1 := z16_new W0 37
  have f0 := d0.alloc (.cells #[.int .u8 0, .int .u8 0, .int .u8 0, .int .u8 0, .int .u8 0, .int .u8 0, .int .u8 0, .int .u8 0, .int .u8 0, .int .u8 0, .int .u8 0, .int .u8 0, .int .u8 0, .int .u8 0, .int .u8 0, .int .u8 0] 37) (by omega)
  have e1 := e0.alloc (by omega) (.cells #[.int .u8 0, .int .u8 0, .int .u8 0, .int .u8 0, .int .u8 0, .int .u8 0, .int .u8 0, .int .u8 0, .int .u8 0, .int .u8 0, .int .u8 0, .int .u8 0, .int .u8 0, .int .u8 0, .int .u8 0, .int .u8 0] 37)
  have z1 : (W0.alloc (.cells #[.int .u8 0, .int .u8 0, .int .u8 0, .int .u8 0, .int .u8 0, .int .u8 0, .int .u8 0, .int .u8 0, .int .u8 0, .int .u8 0, .int .u8 0, .int .u8 0, .int .u8 0, .int .u8 0, .int .u8 0, .int .u8 0] 37)).heap.size = w.heap.size + 1 + 1 := by simp [z0]
  rw [z0] at d1
  generalize W0.alloc (.cells #[.int .u8 0, .int .u8 0, .int .u8 0, .int .u8 0, .int .u8 0, .int .u8 0, .int .u8 0, .int .u8 0, .int .u8 0, .int .u8 0, .int .u8 0, .int .u8 0, .int .u8 0, .int .u8 0, .int .u8 0, .int .u8 0] 37) = W1 at d1 f0 e1 z1 ⊢
  have d2 := z16_new W1 37
  have g0 := hide (f0.alloc (.cells #[.int .u8 0, .int .u8 0, .int .u8 0, .int .u8 0, .int .u8 0, .int .u8 0, .int .u8 0, .int .u8 0, .int .u8 0, .int .u8 0, .int .u8 0, .int .u8 0, .int .u8 0, .int .u8 0, .int .u8 0, .int .u8 0] 37) (by omega))
  have g1 := hide (d1.alloc (.cells #[.int .u8 0, .int .u8 0, .int .u8 0, .int .u8 0, .int .u8 0, .int .u8 0, .int .u8 0, .int .u8 0, .int .u8 0, .int .u8 0, .int .u8 0, .int .u8 0, .int .u8 0, .int .u8 0, .int .u8 0, .int .u8 0] 37))
  have e2 := hide (e1.alloc (by omega) (.cells #[.int .u8 0, .int .u8 0, .int .u8 0, .int .u8 0, .int .u8 0, .int .u8 0, .int .u8 0, .int .u8 0, .int .u8 0, .int .u8 0, .int .u8 0, .int .u8 0, .int .u8 0, .int .u8 0, .int .u8 0, .int .u8 0] 37))
  rw [z1] at d2
  have g2 := hide d2
  generalize W1.alloc (.cells #[.int .u8 0, .int .u8 0, .int .u8 0, .int .u8 0, .int .u8 0, .int .u8 0, .int .u8 0, .int .u8 0, .int .u8 0, .int .u8 0, .int .u8 0, .int .u8 0, .int .u8 0, .int .u8 0, .int .u8 0, .int .u8 0] 37) = W2 at g0 g1 g2 e2 ⊢
  clear d0 e0 z0 d1 f0 e1 z1 d2
  go_loopw [6] (fun iv wr => ∃ k : Nat, k ≤ 8 ∧ iv = .int .i64 k ∧ Q2 wr w.heap.size h l ∧ Ar wr (w.heap.size + 1) 0 16 (fun _ => 0) ∧ Ar wr (w.heap.size + 1 + 1) 0 16 (blK h l k) ∧ Below w.heap.size w wr) (fun iv _ => 8 - (intOf iv).toNat)
  case atStart => exact ⟨0, by omega, rfl, unhide g0, unhide g1, (unhide g2).congr (fun i hi => by unfold blK; by_cases e : i < 8 <;> simp [e]), unhide e2⟩
  case round =>
    obtain ⟨k, hk, rfl, q0, a1, a2, hB⟩ := hrel
    clear g0 g1 g2 e2
    by_cases hlt : k < 8
    · obtain ⟨m, hm⟩ : ∃ m : Nat, m = 7 - k := ⟨_, rfl⟩
      obtain ⟨d, hd⟩ : ∃ d : Nat, d = 8 * m := ⟨_, rfl⟩
      obtain ⟨q, hq⟩ : ∃ q : Nat, q = 8 + k := ⟨_, rfl⟩
      have hdI : 64 - 8 * ((k : Int) + 1) = (d : Int) := by omega
      have hqI : 8 + (k : Int) = (q : Int) := by omega
      have hk16 : k < 16 := by omega
      have hq16 : q < 16 := by omega
      have hd64 : d < 64 := by omega
      have i1 := unhide HI1 m d hd
      have i2 := unhide HI2 m d hd
      have c0 := q0.c0
      have c1 := q0.c1
      have s0 := a2.c0 k hk16
      have s1 := a2.f0 k hk16
      have s2 := a2.c0 q hq16
      have s3 := a2.f0 q hq16
      have P1 := a2.put0 (g := fun i => if i = k then byN h m else blK h l k i) (k := k) (x := byN h m) hk16 (if_pos rfl) (fun i hi hne => if_neg hne)
      have P2 := hide ((P1.put0 (g := blK h l (k + 1)) (k := q) (x := byN l m) hq16 (by unfold blK; rw [if_neg (by omega), if_pos (by omega), show 15 - q = m by omega]) (fun i hi hne => by
        show _ = if i = k then byN h m else blK h l k i
        unfold blK
        by_cases e : i = k
        · rw [if_pos (by omega), if_pos (by omega), if_pos e, show 7 - i = m by omega]
        · rw [if_neg e]
          by_cases e2 : i < 8
          · rw [if_pos e2, if_pos e2]
            by_cases e3 : i < k
            · rw [if_pos e3, if_pos (by omega)]
            · rw [if_neg e3, if_neg (by omega)]
          · rw [if_neg e2, if_neg e2]
            by_cases e3 : i - 8 < k
            · rw [if_pos e3, if_pos (by omega)]
            · rw [if_neg e3, if_neg (by omega)])))
      have P0 := hide ((q0.other (b' := w.heap.size + 1 + 1) (k := k) (v := .int .u8 ((byN h m : Nat) : Int)) (by omega)).other (b' := w.heap.size + 1 + 1) (k := q) (v := .int .u8 ((byN l m : Nat) : Int)) (by omega))
      have P3 := hide ((a1.other (a := ⟨w.heap.size + 1 + 1, k, none⟩) (v := .int .u8 ((byN h m : Nat) : Int)) (by show w.heap.size + 1 + 1 ≠ w.heap.size + 1; omega)).other (a := ⟨w.heap.size + 1 + 1, q, none⟩) (v := .int .u8 ((byN l m : Nat) : Int)) (by show w.heap.size + 1 + 1 ≠ w.heap.size + 1; omega))
      have P4 := hide ((hB.setCell (p := ⟨w.heap.size + 1 + 1, k, none⟩) (show w.heap.size ≤ w.heap.size + 1 + 1 by omega) (.int .u8 ((byN h m : Nat) : Int))).setCell (p := ⟨w.heap.size + 1 + 1, q, none⟩) (show w.heap.size ≤ w.heap.size + 1 + 1 by omega) (.int .u8 ((byN l m : Nat) : Int)))
      have n1 : (0 : Int) ≤ (k : Int) ∧ (k : Int) < 16 := by omega
      have n2 : (0 : Int) ≤ (q : Int) ∧ (q : Int) < 16 := by omega
      have v1 : IntKind.i64.wrap (8 + (k : Int)) = (q : Int) := by rw [hqI]; exact wraps_i64 _ (by omega) (by omega)
      have HH := hide (And.intro hm (And.intro hd hq))
      clear hm hd hq q0 a1 a2 hB P1
      generalize byN h m = x at *
      generalize byN l m = y at *
      generalize blK h l k k = z1 at *
      generalize blK h l k q = z2 at *
      go_wp2
      exact ⟨⟨k + 1, by omega, by go_num, unhide P0, unhide P3, unhide P2, unhide P4⟩, by simp [intOf]; omega⟩
    · obtain rfl : k = 8 := by omega
      have h4 := a2.congr (g := blF h l) (fun i hi => unhide HE i hi)
      have h5 := a1.puts (g := blF h l)
      generalize hr : blF h l = r at *
      have HR := hide hr
      clear hr
      go_upto_region 9 with fail
      refine wp_region_list ?_
      refine wpList_load_mid rfl 37 (.tmp 3) rfl (w.heap.size + 1 + 1) 0 rfl (us 16 r) _ h4.range Try.underlying37 rfl (by rw [us_length]; exact info_bl) ?_
      refine wpList_store_mid rfl 37 (.tmp 2) (.tmp 29) rfl (w.heap.size + 1) 0 (us 16 r).toArray rfl rfl (by rw [us_size]; exact a1.there) (by rw [us_size]; exact info_bl) (us_one _ _) ?_
      refine wpList_nil ?_
      have HB := hide hB
      clear q0 a1 a2 hB h4
      have HH := hide h5
      clear h5
      go_wp2
      refine ret_arr 2 (w.heap.size + 1) 16 37 _ r ?r1 ?r2 ?r3 (unhide HH) Try.underlying37 rfl info_bl ?_
      case r1 => rfl
      case r2 => rfl
      case r3 => rfl
      exact ⟨by rw [unhide HR], Go.Proofs.Ytgoafbhhihfkfaa.below_setCells (by omega) _ _ _ (unhide HB)⟩
set_option maxRecDepth 100000 in
set_option maxHeartbeats 1000000 in
theorem implXorE (h l x y : Nat) (hh : h < 18446744073709551616) (hl : l < 18446744073709551616) (hx : x < 18446744073709551616) (hy : y < 18446744073709551616) (w : World) :
    Calls Try.prog 50 #[.agg #[.int .u64 (h : Nat), .int .u64 (l : Nat)], .agg #[.int .u64 (x : Nat), .int .u64 (y : Nat)]] w fun e w' => e = .returned (.agg #[.int .u64 ((h ^^^ x : Nat) : Int), .int .u64 ((l ^^^ y : Nat) : Int)]) ∧ Below w.heap.size w w' := by
  have x1 := hide (xor64 h x hh hx)
  have x2 := hide (xor64 l y hl hy)
  go_enter Try.func50, Try.ntmps50
  go_wp2
  rw [unhide x1, unhide x2]
  refine ret_two 4 (w.heap.size + 1 + 1) (h ^^^ x) (l ^^^ y) 40 _ ?r1 ?r2 ?r3 ?q Try.underlying40 rfl info_el ?_
  case r1 => rfl
  case r2 => rfl
  case r3 => rfl
  case q =>
    have := q2_own ((w.alloc (.cells #[.int .u64 (h : Nat), .int .u64 (l : Nat)] 40)).alloc (.cells #[.int .u64 (x : Nat), .int .u64 (y : Nat)] 40)) (h ^^^ x) (l ^^^ y) 40
    rw [World.size_alloc, World.size_alloc] at this
    exact this
  exact ⟨rfl, (((Below.refl w.heap.size w).alloc (Nat.le_refl _) _).alloc (by simp) _).alloc (by simp; omega) _⟩
theorem or63' (H L : Nat) (hL : L < 18446744073709551616) : bits .or .u64 (IntKind.u64.wrap ((H : Int) * 9223372036854775808)) ((L : Int) / 2) = ((L / 2 + H % 2 * 9223372036854775808 : Nat) : Int) := by
  have h1 := Nat.two_pow_add_eq_or_of_lt (i := 63) (b := L / 2) (by omega) (H % 2)
  show IntKind.u64.wrap (((BitVec.ofInt 64 (IntKind.u64.wrap ((H : Int) * 9223372036854775808)) ||| BitVec.ofInt 64 ((L : Int) / 2)).toNat : Nat) : Int) = _
  rw [BitVec.toNat_or, BitVec.toNat_ofInt, BitVec.toNat_ofInt, IntKind.wrap_u64, IntKind.wrap_u64, show ((L : Int) / 2 % ((2 ^ 64 : Nat) : Int)).toNat = L / 2 by omega, show ((H : Int) * 9223372036854775808 % 18446744073709551616 % ((2 ^ 64 : Nat) : Int)).toNat = 2 ^ 63 * (H % 2) by omega, ← h1]
  omega
set_option maxRecDepth 100000 in
set_option maxHeartbeats 1000000 in
theorem implTimesX (h l : Nat) (hh : h < 18446744073709551616) (hl : l < 18446744073709551616) (w : World) :
    Calls Try.prog 51 #[.agg #[.int .u64 (h : Nat), .int .u64 (l : Nat)]] w fun e w' => e = .returned (.agg #[.int .u64 (((bsP h l 1).1 : Nat) : Int), .int .u64 (((bsP h l 1).2 : Nat) : Int)]) ∧ Below w.heap.size w w' := by
  have HS : Hid (bsP h l 1 = (if l % 2 = 1 then h / 2 ^^^ 16212958658533785600 else h / 2, l / 2 + h % 2 * 9223372036854775808)) := rfl
  obtain ⟨G, hG⟩ : ∃ G : Nat, G = h / 2 := ⟨_, rfl⟩
  have hGI : (h : Int) / 2 = (G : Int) := by omega
  have hG64 : G < 18446744073709551616 := by omega
  have HG := hide hG.symm
  clear hG
  have xC : Hid (bits .xor .u64 (G : Int) 16212958658533785600 = ((G ^^^ 16212958658533785600 : Nat) : Int)) := xor64 G 16212958658533785600 hG64 (by omega)
  have oL := hide (or63' h l hl)
  have aL := and1 (l : Int) (by omega) (by omega)
  by_cases hlow : l % 2 = 1
  · have t2 : bits .and .u64 (l : Int) 1 = 1 := by omega
    have s1 : Hid ((bsP h l 1).1 = G ^^^ 16212958658533785600) := by rw [unhide HS]; exact (show (if l % 2 = 1 then h / 2 ^^^ 16212958658533785600 else h / 2) = _ by rw [if_pos hlow, unhide HG])
    have s2 : Hid ((bsP h l 1).2 = (l / 2 + h % 2 * 9223372036854775808)) := by rw [unhide HS]; exact rfl
    clear aL hlow
    go_enter Try.func51, Try.ntmps51
    go_wp2
    rw [unhide xC, unhide oL]
    refine ret_two 2 (w.heap.size + 1) (G ^^^ 16212958658533785600) (l / 2 + h % 2 * 9223372036854775808) 40 _ ?r1 ?r2 ?r3 ?q Try.underlying40 rfl info_el ?_
    case r1 => rfl
    case r2 => rfl
    case r3 => rfl
    case q =>
      have := q2_own (w.alloc (.cells #[.int .u64 (h : Nat), .int .u64 (l : Nat)] 40)) (G ^^^ 16212958658533785600) (l / 2 + h % 2 * 9223372036854775808) 40
      rw [World.size_alloc] at this
      exact this.alloc _ (by simp)
    exact ⟨by rw [unhide s1, unhide s2], (((Below.refl w.heap.size w).alloc (Nat.le_refl _) _).alloc (by simp) _).alloc (by simp; omega) _⟩
  · have t2 : bits .and .u64 (l : Int) 1 = 0 := by omega
    have s1 : Hid ((bsP h l 1).1 = G) := by rw [unhide HS]; exact (show (if l % 2 = 1 then h / 2 ^^^ 16212958658533785600 else h / 2) = _ by rw [if_neg hlow, unhide HG])
    have s2 : Hid ((bsP h l 1).2 = (l / 2 + h % 2 * 9223372036854775808)) := by rw [unhide HS]; exact rfl
    clear aL hlow
    go_enter Try.func51, Try.ntmps51
    go_wp2
    rw [unhide oL]
    refine ret_two 2 (w.heap.size + 1) G (l / 2 + h % 2 * 9223372036854775808) 40 _ ?r1 ?r2 ?r3 ?q Try.underlying40 rfl info_el ?_
    case r1 => rfl
    case r2 => rfl
    case r3 => rfl
    case q =>
      have := q2_own (w.alloc (.cells #[.int .u64 (h : Nat), .int .u64 (l : Nat)] 40)) G (l / 2 + h % 2 * 9223372036854775808) 40
      rw [World.size_alloc] at this
      exact this.alloc _ (by simp)
    exact ⟨by rw [unhide s1, unhide s2], (((Below.refl w.heap.size w).alloc (Nat.le_refl _) _).alloc (by simp) _).alloc (by simp; omega) _⟩
end Go.Proofs.Ytgoafbhhihfkfaa
namespace Go.Proofs.Ytgoafbhhihfkfaa
open Go.ChangeShapes Go.WideShapes Go.ChangeAt Go.RowKit
set_option linter.unusedVariables false

theorem and63 (x : Nat) (hx : x < 18446744073709551616) : bits .and .u64 (x : Int) 9223372036854775808 = ((x / 9223372036854775808 * 9223372036854775808 : Nat) : Int) := by
  show IntKind.u64.wrap (((BitVec.ofInt 64 (x : Int) &&& BitVec.ofInt 64 9223372036854775808).toNat : Nat) : Int) = _
  have e : (x &&& 9223372036854775808) = x / 9223372036854775808 * 9223372036854775808 := by
    apply Nat.eq_of_testBit_eq
    intro i
    rw [Nat.testBit_and, show (9223372036854775808 : Nat) = 2 ^ 63 from rfl, Nat.testBit_two_pow]
    by_cases h : 63 = i
    · subst h
      rw [Nat.testBit_eq_decide_div_mod_eq, Nat.testBit_eq_decide_div_mod_eq, Nat.mul_div_cancel _ (by decide)]
      simp
    · have h1 : x / 2 ^ 63 = 0 ∨ x / 2 ^ 63 = 1 := by omega
      rw [decide_eq_false h, Bool.and_false]
      rcases h1 with h1 | h1
      · rw [h1, Nat.zero_mul, Nat.zero_testBit]
      · rw [h1, Nat.one_mul, Nat.testBit_two_pow, decide_eq_false h]
  rw [BitVec.toNat_and, BitVec.toNat_ofInt, show (BitVec.ofInt 64 9223372036854775808).toNat = 9223372036854775808 from rfl, show ((x : Int) % ((2 ^ 64 : Nat) : Int)).toNat = x by omega, e, IntKind.wrap_u64]
  omega
/-- a word moved up by i bits -/
def hfW (W i : Nat) : Nat := W * 2 ^ i % 18446744073709551616
theorem hfW_lt (W i : Nat) : hfW W i < 18446744073709551616 := Nat.mod_lt _ (by omega)
theorem hfW_zero (W : Nat) (h : W < 18446744073709551616) : hfW W 0 = W := by
  unfold hfW
  rw [Nat.pow_zero, Nat.mul_one, Nat.mod_eq_of_lt h]
theorem hfW_next (W i : Nat) : hfW W (i + 1) = hfW W i * 2 % 18446744073709551616 := by
  unfold hfW
  rw [Nat.pow_succ, ← Nat.mul_assoc, Nat.mod_mul_mod]
theorem hfW_bit (W i : Nat) (hi : i < 64) : hfW W i / 9223372036854775808 = W / 2 ^ (63 - i) % 2 := by
  unfold hfW
  have e1 : (18446744073709551616 : Nat) = 2 ^ i * 2 ^ (64 - i) := by rw [← Nat.pow_add, show i + (64 - i) = 64 by omega]
  have e2 : (9223372036854775808 : Nat) = 2 ^ i * 2 ^ (63 - i) := by rw [← Nat.pow_add, show i + (63 - i) = 63 by omega]
  have e3 : 2 ^ (64 - i) = 2 ^ (63 - i) * 2 := by rw [← Nat.pow_succ]; congr 1; omega
  rw [e1, e2, Nat.mul_comm W, Nat.mul_mod_mul_left, Nat.mul_div_mul_left _ _ (Nat.two_pow_pos i), e3, Nat.mod_mul_right_div_self]
theorem bsP_next (bh bl n : Nat) : bsP bh bl (n + 1) = bsP (bsP bh bl n).1 (bsP bh bl n).2 1 := rfl
set_option maxRecDepth 100000 in
set_option maxHeartbeats 1000000 in
theorem implTimes (ah al bh bl : Nat) (hah : ah < 18446744073709551616) (hal : al < 18446744073709551616) (hbh : bh < 18446744073709551616) (hbl : bl < 18446744073709551616) (w : World) :
    Calls Try.prog 27 #[.agg #[.int .u64 (ah : Nat), .int .u64 (al : Nat)], .agg #[.int .u64 (bh : Nat), .int .u64 (bl : Nat)]] w fun e w' => e = .returned (.agg #[.int .u64 ((ouP ah al bh bl 128).1 : Nat), .int .u64 ((ouP ah al bh bl 128).2 : Nat)]) ∧ Below w.heap.size w w' := by
  have HBL := hide (fun i => bsP_lt bh bl hbh hbl i)
  have HOL := hide (fun i => ouP_lt ah al bh bl hbh hbl i)
  have HBN := hide (fun n => bsP_next bh bl n)
  have HON : Hid (∀ n, ouP ah al bh bl (n + 1) = if btA ah al n = 1 then ((ouP ah al bh bl n).1 ^^^ (bsP bh bl n).1, (ouP ah al bh bl n).2 ^^^ (bsP bh bl n).2) else ouP ah al bh bl n) := fun n => rfl
  have HB0 : Hid (bsP bh bl 0 = (bh, bl)) := rfl
  have HO0 : Hid (ouP ah al bh bl 0 = (0, 0)) := rfl
  have HIX : Hid (∀ j : Nat, j < 2 → ∃ X : Nat, X < 18446744073709551616 ∧ (∀ i, i < 64 → btA ah al (64 * j + i) = X / 2 ^ (63 - i) % 2) ∧ ∀ V : World, (Instr.index 75 (.agg #[.int .u64 (ah : Nat), .int .u64 (al : Nat)]) (.int .i64 (j : Nat))).run Try.prog V = .ok (.int .u64 (X : Nat)) V) := fun j hj => by
    have e : j = 0 ∨ j = 1 := by omega
    rcases e with rfl | rfl
    · refine ⟨ah, hah, fun i hi => ?_, fun V => ?_⟩
      · unfold btA
        rw [if_pos (by omega), show 64 * 0 + i = i by omega]
      · rfl
    · refine ⟨al, hal, fun i hi => ?_, fun V => ?_⟩
      · unfold btA
        rw [if_neg (by omega), show 127 - (64 * 1 + i) = 63 - i by omega]
      · rfl
  generalize bsP bh bl = BS at *
  generalize ouP ah al bh bl = OU at *
  generalize btA ah al = BT at *
  go_enter Try.func27, Try.ntmps27
  go_wp2_with fail
  have d0 := q2_own w ah al 40
  have e0 := (Below.refl w.heap.size w).alloc (Nat.le_refl _) (.cells #[.int .u64 (ah : Nat), .int .u64 (al : Nat)] 40)
  have z0 : (w.alloc (.cells #[.int .u64 (ah : Nat), .int .u64 (al : Nat)] 40)).heap.size = w.heap.size + 1 := by simp
  generalize w.alloc (.cells #[.int .u64 (ah : Nat), .int .u64 (al : Nat)] 40) = W0 at d0 e0 z0 ⊢
  have d1 := q2_own W0 bh bl 40
  have e1 := e0.alloc (by omega) (.cells #[.int .u64 (bh : Nat), .int .u64 (bl : Nat)] 40)
  have z1 : (W0.alloc (.cells #[.int .u64 (bh : Nat), .int .u64 (bl : Nat)] 40)).heap.size = w.heap.size + 1 + 1 := by simp [z0]
  generalize W0.alloc (.cells #[.int .u64 (bh : Nat), .int .u64 (bl : Nat)] 40) = W1 at d1 e1 z1 ⊢
  rw [z0] at d1
  have d2 : Q2 (W1.alloc (.cells #[.int .u64 0, .int .u64 0] 40)) W1.heap.size 0 0 := q2_own W1 0 0 40
  have d1' := d1.alloc (.cells #[.int .u64 0, .int .u64 0] 40) (by omega)
  have e2 := e1.alloc (by omega) (.cells #[.int .u64 0, .int .u64 0] 40)
  have z2 : (W1.alloc (.cells #[.int .u64 0, .int .u64 0] 40)).heap.size = w.heap.size + 1 + 1 + 1 := by simp [z1]
  generalize W1.alloc (.cells #[.int .u64 0, .int .u64 0] 40) = W2 at d2 d1' e2 z2 ⊢
  rw [z1] at d2
  have d3 : Q2 (W2.alloc (.cells #[.int .u64 0, .int .u64 0] 40)) W2.heap.size 0 0 := q2_own W2 0 0 40
  have f1 := hide (d1'.alloc (.cells #[.int .u64 0, .int .u64 0] 40) (by omega))
  have f2 := hide (d2.alloc (.cells #[.int .u64 0, .int .u64 0] 40) (by omega))
  have e3 := hide (e2.alloc (by omega) (.cells #[.int .u64 0, .int .u64 0] 40))
  have z3 : (W2.alloc (.cells #[.int .u64 0, .int .u64 0] 40)).heap.size = w.heap.size + 1 + 1 + 1 + 1 := by simp [z2]
  rw [z2] at d3
  have f3 := hide d3
  have k3 := hide z3
  generalize W2.alloc (.cells #[.int .u64 0, .int .u64 0] 40) = W3 at f1 f2 f3 e3 k3 ⊢
  clear d0 e0 z0 d1 e1 z1 d2 d1' e2 z2 d3 z3
  go_loopw [13] (fun jv wr => ∃ j : Nat, j ≤ 2 ∧ jv = .int .i64 j ∧ Q2 wr (w.heap.size + 1) (BS (64 * j)).1 (BS (64 * j)).2 ∧ Q2 wr (w.heap.size + 1 + 1) 0 0 ∧ Q2 wr (w.heap.size + 1 + 1 + 1) (OU (64 * j)).1 (OU (64 * j)).2 ∧ w.heap.size + 1 + 1 + 1 + 1 ≤ wr.heap.size ∧ Below w.heap.size w wr) (fun jv _ => 2 - (intOf jv).toNat)
  case atStart => exact ⟨0, by omega, rfl, by rw [Nat.mul_zero, unhide HB0]; exact unhide f1, unhide f2, by rw [Nat.mul_zero, unhide HO0]; exact unhide f3, by rw [unhide k3]; exact Nat.le_refl _, unhide e3⟩
  case round =>
    obtain ⟨j, hj, rfl, q1, q2, q3, hsz, hB⟩ := hrel
    clear f1 f2 f3 e3 k3
    by_cases hlt : j < 2
    · obtain ⟨X, hX, hbt, hix⟩ := unhide HIX j hlt
      have HBT := hide hbt
      have R1 := hide q1
      have R2 := hide q2
      have R3 := hide q3
      have RB := hide hB
      clear hbt q1 q2 q3 hB
      go_wp2_with fail
      generalize decide ((j : Int) < 2) = dj
      go_loopw [7, 16] (fun hv iv wr => ∃ i : Nat, i ≤ 64 ∧ iv = .int .i64 i ∧ hv = .int .u64 (hfW X i : Nat) ∧ Q2 wr (w.heap.size + 1) (BS (64 * j + i)).1 (BS (64 * j + i)).2 ∧ Q2 wr (w.heap.size + 1 + 1) 0 0 ∧ Q2 wr (w.heap.size + 1 + 1 + 1) (OU (64 * j + i)).1 (OU (64 * j + i)).2 ∧ w.heap.size + 1 + 1 + 1 + 1 ≤ wr.heap.size ∧ Below w.heap.size w wr) (fun _ iv _ => 64 - (intOf iv).toNat)
      case atStart => exact ⟨0, by omega, rfl, by rw [hfW_zero X hX], unhide R1, unhide R2, unhide R3, hsz, unhide RB⟩
      case round =>
        obtain ⟨i, hi, rfl, rfl, q1, q2, q3, hsz, hB⟩ := hrel
        clear R1 R2 R3 RB
        by_cases hli : i < 64
        · obtain ⟨n, hn⟩ : ∃ n : Nat, n = 64 * j + i := ⟨_, rfl⟩
          rw [← hn] at q1 q3
          have hbt := unhide HBT i hli
          rw [← hn, ← hfW_bit X i hli] at hbt
          have hnx := hfW_next X i
          have hv64 := hfW_lt X i
          obtain ⟨hb1, hb2⟩ := unhide HBL n
          obtain ⟨ho1, ho2⟩ := unhide HOL n
          have aA := and63 (hfW X i) hv64
          have HBS := hide (unhide HBN n)
          have HOS := hide (unhide HON n)
          have HN := hide hn
          have hn1 : Hid (64 * j + (i + 1) = n + 1) := by rw [hn]; exact rfl
          clear hn
          have HBL' := unhide HBL (n + 1)
          rw [unhide HBS] at HBL'
          have hP : Hid (OU n = ((OU n).1, (OU n).2)) := rfl
          generalize (BS n).1 = H at *
          generalize (BS n).2 = L at *
          generalize (OU n).1 = P at *
          generalize (OU n).2 = Y at *
          generalize hvd : hfW X i = v at *
          have HX := hide (fun W => implXorE P Y H L ho1 ho2 hb1 hb2 W)
          have HT := hide (fun W => implTimesX H L hb1 hb2 W)
          have HNX : Hid (IntKind.u64.wrap ((v : Int) * 2) = ((hfW X (i + 1) : Nat) : Int)) := by rw [hnx, IntKind.wrap_u64]; exact (show (v : Int) * 2 % 18446744073709551616 = ((v * 2 % 18446744073709551616 : Nat) : Int) by omega)
          obtain ⟨hl1, hl2⟩ := HBL'
          generalize hg1 : (bsP H L 1).1 = H' at *
          generalize hg2 : (bsP H L 1).2 = L' at *
          have HG : Hid (BS (n + 1) = (H', L')) := by rw [unhide HBS, ← hg1, ← hg2]; exact rfl
          clear hg1 hg2 hnx hvd
          have R1 := hide q1
          have R2 := hide q2
          have R3 := hide q3
          have RB := hide hB
          have u0 := q1.c0
          have u1 := q1.c1
          have u2 := q3.c0
          have u3 := q3.c1
          clear q1 q2 q3 hB
          have hs1 : w.heap.size + 1 < wr.heap.size := by omega
          have hs2 : w.heap.size + 1 + 1 < wr.heap.size := by omega
          have hs3 : w.heap.size + 1 + 1 + 1 < wr.heap.size := by omega
          by_cases hbit : BT n = 1
          · have t1 : bits .and .u64 (v : Int) 9223372036854775808 = 9223372036854775808 := by rw [aA]; omega
            have HOT : Hid (OU (n + 1) = (P ^^^ H, Y ^^^ L)) := by rw [unhide HOS, if_pos hbit]; exact rfl
            clear aA hbt hbit
            go_wp2_with (first | (go_at_call 50; with_reducible refine (unhide HX _).mono ?_; rintro e w4 ⟨rfl, b4⟩; have K1 := (unhide R1).keep b4 hs1; have K2 := hide ((unhide R2).keep b4 hs2); have K3 := (unhide R3).keep b4 hs3; have KB := hide ((unhide RB).trans (b4.mono (unhide RB).size)); have hz4 := hide b4.size; clear b4; have k0 := K1.c0; have k1 := K1.c1; have k2 := K3.c0; have k3 := K3.c1; have k4 := K3.f0; have k5 := K3.f1; have K1 := hide K1; have K3 := hide K3; clear u0 u1 u2 u3))
            have M1 := ((unhide K1).other (b' := w.heap.size + 1 + 1 + 1) (k := 0) (v := .int .u64 ((P ^^^ H : Nat) : Int)) (by omega)).other (b' := w.heap.size + 1 + 1 + 1) (k := 1) (v := .int .u64 ((Y ^^^ L : Nat) : Int)) (by omega)
            have M2 := ((unhide K2).other (b' := w.heap.size + 1 + 1 + 1) (k := 0) (v := .int .u64 ((P ^^^ H : Nat) : Int)) (by omega)).other (b' := w.heap.size + 1 + 1 + 1) (k := 1) (v := .int .u64 ((Y ^^^ L : Nat) : Int)) (by omega)
            have M3 := ((unhide K3).put0 (P ^^^ H)).put1 (Y ^^^ L)
            have MB := ((unhide KB).setCell (p := ⟨w.heap.size + 1 + 1 + 1, 0, none⟩) (show w.heap.size ≤ w.heap.size + 1 + 1 + 1 by omega) (.int .u64 ((P ^^^ H : Nat) : Int))).setCell (p := ⟨w.heap.size + 1 + 1 + 1, 1, none⟩) (show w.heap.size ≤ w.heap.size + 1 + 1 + 1 by omega) (.int .u64 ((Y ^^^ L : Nat) : Int))
            have hz5 : w.heap.size + 1 + 1 + 1 + 1 ≤ ((w4.setCell ⟨w.heap.size + 1 + 1 + 1, 0, none⟩ (.int .u64 ((P ^^^ H : Nat) : Int))).setCell ⟨w.heap.size + 1 + 1 + 1, 1, none⟩ (.int .u64 ((Y ^^^ L : Nat) : Int))).heap.size := by
              have := unhide hz4
              simp [World.setCell]
              omega
            generalize (w4.setCell ⟨w.heap.size + 1 + 1 + 1, 0, none⟩ (.int .u64 ((P ^^^ H : Nat) : Int))).setCell ⟨w.heap.size + 1 + 1 + 1, 1, none⟩ (.int .u64 ((Y ^^^ L : Nat) : Int)) = W5 at M1 M2 M3 MB hz5 ⊢
            clear K1 K2 K3 KB k0 k1 k2 k3 k4 k5 hz4
            refine (unhide HT _).mono ?_
            rintro e w6 ⟨rfl, b6⟩
            have N1 := M1.keep b6 (by omega)
            have k0 := N1.c0
            have k1 := N1.c1
            have k2 := N1.f0
            have k3 := N1.f1
            have T1 := hide ((N1.put0 H').put1 L')
            have T2 := hide (((M2.keep b6 (by omega)).other (b' := w.heap.size + 1) (k := 0) (v := .int .u64 (H' : Nat)) (by omega)).other (b' := w.heap.size + 1) (k := 1) (v := .int .u64 (L' : Nat)) (by omega))
            have T3 := hide (((M3.keep b6 (by omega)).other (b' := w.heap.size + 1) (k := 0) (v := .int .u64 (H' : Nat)) (by omega)).other (b' := w.heap.size + 1) (k := 1) (v := .int .u64 (L' : Nat)) (by omega))
            have TB := hide (((MB.trans (b6.mono MB.size)).setCell (p := ⟨w.heap.size + 1, 0, none⟩) (show w.heap.size ≤ w.heap.size + 1 by omega) (.int .u64 (H' : Nat))).setCell (p := ⟨w.heap.size + 1, 1, none⟩) (show w.heap.size ≤ w.heap.size + 1 by omega) (.int .u64 (L' : Nat)))
            have hz6 : Hid (w.heap.size + 1 + 1 + 1 + 1 ≤ ((w6.setCell ⟨w.heap.size + 1, 0, none⟩ (.int .u64 (H' : Nat))).setCell ⟨w.heap.size + 1, 1, none⟩ (.int .u64 (L' : Nat))).heap.size) := by
              have := b6.size
              simp only [World.setCell, Array.size_modify]
              exact Nat.le_trans hz5 this
            clear N1 M1 M2 M3 MB b6 hz5
            go_wp2
            exact ⟨⟨i + 1, by omega, by go_num, by rw [unhide HNX], by rw [unhide hn1, unhide HG]; exact unhide T1, unhide T2, by rw [unhide hn1, unhide HOT]; exact unhide T3, unhide hz6, unhide TB⟩, by simp [intOf]; omega⟩
          · have t1 : bits .and .u64 (v : Int) 9223372036854775808 = 0 := by rw [aA]; omega
            have HOT : Hid (OU (n + 1) = (P, Y)) := by rw [unhide HOS, if_neg hbit]; exact unhide hP
            clear aA hbt hbit
            go_wp2_with (first | (go_at_call 51; with_reducible refine (unhide HT _).mono ?_; rintro e w6 ⟨rfl, b6⟩; have N1 := (unhide R1).keep b6 hs1; have k0 := N1.c0; have k1 := N1.c1; have k2 := N1.f0; have k3 := N1.f1; have N1 := hide N1; have B6 := hide b6; clear b6 u0 u1 u2 u3))
            have b6 := unhide B6
            have T1 := hide (((unhide N1).put0 H').put1 L')
            have T2 := hide ((((unhide R2).keep b6 (by omega)).other (b' := w.heap.size + 1) (k := 0) (v := .int .u64 (H' : Nat)) (by omega)).other (b' := w.heap.size + 1) (k := 1) (v := .int .u64 (L' : Nat)) (by omega))
            have T3 := hide ((((unhide R3).keep b6 (by omega)).other (b' := w.heap.size + 1) (k := 0) (v := .int .u64 (H' : Nat)) (by omega)).other (b' := w.heap.size + 1) (k := 1) (v := .int .u64 (L' : Nat)) (by omega))
            have TB := hide ((((unhide RB).trans (b6.mono (unhide RB).size)).setCell (p := ⟨w.heap.size + 1, 0, none⟩) (show w.heap.size ≤ w.heap.size + 1 by omega) (.int .u64 (H' : Nat))).setCell (p := ⟨w.heap.size + 1, 1, none⟩) (show w.heap.size ≤ w.heap.size + 1 by omega) (.int .u64 (L' : Nat)))
            have hz6 : Hid (w.heap.size + 1 + 1 + 1 + 1 ≤ ((w6.setCell ⟨w.heap.size + 1, 0, none⟩ (.int .u64 (H' : Nat))).setCell ⟨w.heap.size + 1, 1, none⟩ (.int .u64 (L' : Nat))).heap.size) := by
              have := b6.size
              simp only [World.setCell, Array.size_modify]
              exact Nat.le_trans hsz this
            exact ⟨⟨i + 1, by omega, by go_num, by rw [unhide HNX], by rw [unhide hn1, unhide HG]; exact unhide T1, unhide T2, by rw [unhide hn1, unhide HOT]; exact unhide T3, unhide hz6, unhide TB⟩, by simp [intOf]; omega⟩
        · obtain rfl : i = 64 := by omega
          have R1 := hide q1
          have R2 := hide q2
          have R3 := hide q3
          have RB := hide hB
          have e64 : Hid (64 * j + 64 = 64 * (j + 1)) := by exact rfl
          clear q1 q2 q3 hB
          go_wp2
          exact ⟨⟨j + 1, by omega, by go_num, by rw [← unhide e64]; exact unhide R1, unhide R2, by rw [← unhide e64]; exact unhide R3, hsz, unhide RB⟩, by simp [intOf]; omega⟩
    · obtain rfl : j = 2 := by omega
      have c0 := q3.c0
      have c1 := q3.c1
      have g0 := q2.f0
      have g1 := q2.f1
      have k0 := q2.c0
      have k1 := q2.c1
      have R := hide ((q2.put0 (OU 128).1).put1 (OU 128).2)
      have B := hide ((hB.setCell (p := ⟨w.heap.size + 1 + 1, 0, none⟩) (show w.heap.size ≤ w.heap.size + 1 + 1 by omega) (.int .u64 ((OU 128).1 : Nat))).setCell (p := ⟨w.heap.size + 1 + 1, 1, none⟩) (show w.heap.size ≤ w.heap.size + 1 + 1 by omega) (.int .u64 ((OU 128).2 : Nat)))
      clear q1 q2 q3 hB
      go_wp2
      refine ret_two 4 (w.heap.size + 1 + 1) (OU 128).1 (OU 128).2 40 _ ?r1 ?r2 ?r3 (unhide R) Try.underlying40 rfl info_el ?_
      case r1 => rfl
      case r2 => rfl
      case r3 => rfl
      exact ⟨rfl, unhide B⟩
end Go.Proofs.Ytgoafbhhihfkfaa
namespace Go.Proofs.Ytgoafbhhihfkfaa
open Go.ChangeShapes Go.WideShapes Go.ChangeAt Go.RowKit
set_option linter.unusedVariables false

/-- a block of sixteen bytes in a new variable -/
theorem fr16 (w : World) (f : Nat → Nat) : Ar ((w.alloc (.cells #[.int .u8 0, .int .u8 0, .int .u8 0, .int .u8 0, .int .u8 0, .int .u8 0, .int .u8 0, .int .u8 0, .int .u8 0, .int .u8 0, .int .u8 0, .int .u8 0, .int .u8 0, .int .u8 0, .int .u8 0, .int .u8 0] 37)).setCells w.heap.size 0 (us 16 f)) w.heap.size 0 16 f ∧ Below w.heap.size w ((w.alloc (.cells #[.int .u8 0, .int .u8 0, .int .u8 0, .int .u8 0, .int .u8 0, .int .u8 0, .int .u8 0, .int .u8 0, .int .u8 0, .int .u8 0, .int .u8 0, .int .u8 0, .int .u8 0, .int .u8 0, .int .u8 0, .int .u8 0] 37)).setCells w.heap.size 0 (us 16 f)) ∧ ((w.alloc (.cells #[.int .u8 0, .int .u8 0, .int .u8 0, .int .u8 0, .int .u8 0, .int .u8 0, .int .u8 0, .int .u8 0, .int .u8 0, .int .u8 0, .int .u8 0, .int .u8 0, .int .u8 0, .int .u8 0, .int .u8 0, .int .u8 0] 37)).setCells w.heap.size 0 (us 16 f)).heap.size = w.heap.size + 1 :=
  ⟨(z16_new w 37).puts, Go.Proofs.Ytgoafbhhihfkfaa.below_setCells (Nat.le_refl _) _ _ _ ((Below.refl w.heap.size w).alloc (Nat.le_refl _) _), by rw [size_setCells, World.size_alloc]⟩
theorem bq_add (n m : Nat) (f : Nat → Nat) : bq (n + m) f = bq n f ++ bq m (fun i => f (n + i)) := by
  apply ByteArray.ext
  rw [ByteArray.data_append]
  unfold bq
  rw [List.range_add, List.map_append, List.map_map]
  simp
theorem tlW_bq (h l : Nat) : tlW h l = bq 16 (blF h l) := by
  rw [bq_add 8 8 (blF h l)]
  unfold tlW
  rw [bq_congr (n := 8) (f := fun i => byN h (7 - i)) (g := blF h l) (fun i hi => by unfold blF; rw [if_pos hi]), bq_congr (n := 8) (f := fun i => byN l (7 - i)) (g := fun i => blF h l (8 + i)) (fun i hi => by unfold blF; rw [if_neg (by omega), show 15 - (8 + i) = 7 - i by omega])]
theorem nbF_nbW (s : ByteArray) (f : Nat → Nat) : ∀ k, (∀ i, i < k → f i = at8 s i) → nbF f k = nbW s k
  | 0, _ => rfl
  | k + 1, h => by rw [nbF, nbW, nbF_nbW s f k (fun i hi => h i (by omega)), h k (by omega)]
theorem nbF_hi (s : ByteArray) (hs : s.size = 16) : nbF (at8 s) 8 = hiW s := nbF_nbW _ _ 8 (fun i hi => by rw [at8_extract s 0 8 i (by omega) (by omega), Nat.zero_add])
theorem nbF_lo (s : ByteArray) (hs : s.size = 16) : nbF (fun i => at8 s (8 + i)) 8 = loW s := nbF_nbW _ _ 8 (fun i hi => by rw [at8_extract s 8 16 i (by omega) (by omega)])
theorem implElement (s : ByteArray) (hs : s.size = 16) (b cap : Nat) (W : World) (h : Ar W b 0 16 (at8 s)) :
    Calls Try.prog 26 #[.slice (some ⟨b, 0, none⟩) 16 cap] W fun e w' => e = .returned (.agg #[.int .u64 (hiW s : Nat), .int .u64 (loW s : Nat)]) ∧ Below W.heap.size W w' := by
  have := implElementOf b 0 16 cap (at8 s) (at8_lt s) (by omega) (by omega) W h
  rw [nbF_hi s hs, nbF_lo s hs] at this
  exact this
set_option maxRecDepth 100000 in
set_option maxHeartbeats 1000000 in
theorem implMB_ok (a b : ByteArray) (h : a.size = 16 ∧ b.size = 16) (w : World) :
    Calls Try.prog 10 #[.string a, .string b] w fun e w' => e = .returned (.tuple #[.string (mbW a b), .bool true]) ∧ Below w.heap.size w w' := by
  obtain ⟨ha, hb⟩ := h
  have hl := ouP_lt (hiW a) (loW a) (hiW b) (loW b) (hiW_lt b) (loW_lt b) 128
  have HE1 := hide (fun cb cap W (h : Ar W cb 0 16 (at8 a)) => implElement a ha cb cap W h)
  have HE2 := hide (fun cb cap W (h : Ar W cb 0 16 (at8 b)) => implElement b hb cb cap W h)
  have H3 := hide (fun W => implTimes (hiW a) (loW a) (hiW b) (loW b) (hiW_lt a) (loW_lt a) (hiW_lt b) (loW_lt b) W)
  have H4 := hide (fun W => implBlock _ _ hl.1 hl.2 W)
  have HR : Hid (mbW a b = bq 16 (blF (ouP (hiW a) (loW a) (hiW b) (loW b) 128).1 (ouP (hiW a) (loW a) (hiW b) (loW b) 128).2)) := tlW_bq _ _
  have HL := hide (blF_lt (ouP (hiW a) (loW a) (hiW b) (loW b) 128).1 (ouP (hiW a) (loW a) (hiW b) (loW b) 128).2)
  generalize blF (ouP (hiW a) (loW a) (hiW b) (loW b) 128).1 (ouP (hiW a) (loW a) (hiW b) (loW b) 128).2 = r at *
  generalize (ouP (hiW a) (loW a) (hiW b) (loW b) 128).1 = x at *
  generalize (ouP (hiW a) (loW a) (hiW b) (loW b) 128).2 = y at *
  generalize hiW a = a1 at *
  generalize loW a = a2 at *
  generalize hiW b = b1 at *
  generalize loW b = b2 at *
  clear hl
  go_enter Try.func10, Try.ntmps10
  go_wp2_with fail
  obtain ⟨cap, W, hcv, hbW, hcW, hsz⟩ := conv_ar w a
  rw [hcv, ha]
  rw [ha] at hcW
  have B1 := hide hbW
  have A1 := hide hcW
  clear hcv hcW hbW hsz
  go_wp2_with fail
  refine (unhide HE1 _ _ _ (unhide A1)).mono ?_
  rintro e w2 ⟨rfl, c2⟩
  have B2 := hide ((unhide B1).trans (c2.mono (unhide B1).size))
  clear c2 A1 B1
  go_wp2_with fail
  obtain ⟨cap2, W2, hcv, hbW, hcW, hsz⟩ := conv_ar w2 b
  rw [hcv, hb]
  rw [hb] at hcW
  have B3 := hide ((unhide B2).trans (hbW.mono (unhide B2).size))
  have A3 := hide hcW
  clear hcv hcW hbW hsz B2
  go_wp2_with fail
  refine (unhide HE2 _ _ _ (unhide A3)).mono ?_
  rintro e w4 ⟨rfl, c4⟩
  have B4 := hide ((unhide B3).trans (c4.mono (unhide B3).size))
  clear c4 A3 B3
  go_wp2_with fail
  refine (unhide H3 _).mono ?_
  rintro e w5 ⟨rfl, c5⟩
  have B5 := hide ((unhide B4).trans (c5.mono (unhide B4).size))
  clear c5 B4
  go_wp2_with fail
  refine (unhide H4 _).mono ?_
  rintro e w6 ⟨rfl, c6⟩
  have B6 := hide ((unhide B5).trans (c6.mono (unhide B5).size))
  clear c6 B5
  have hlr : (us 16 r).length = 16 := us_length _ _
  go_wp2_with fail
  rw [(z16_new w6 37).cellsPut]
  obtain ⟨n1, n2, n3⟩ := fr16 w6 r
  generalize (w6.alloc (.cells #[.int .u8 0, .int .u8 0, .int .u8 0, .int .u8 0, .int .u8 0, .int .u8 0, .int .u8 0, .int .u8 0, .int .u8 0, .int .u8 0, .int .u8 0, .int .u8 0, .int .u8 0, .int .u8 0, .int .u8 0, .int .u8 0] 37)).setCells w6.heap.size 0 (us 16 r) = W7 at n1 n2 n3 ⊢
  have B7 := hide ((unhide B6).trans (n2.mono (unhide B6).size))
  have hst := ar_string n1 (fun i _ => unhide HL i) 16
  clear n1 n2 n3 hlr B6
  go_wp2
  go_ret2
  exact ⟨by rw [unhide HR]; rfl, unhide B7⟩
theorem implMB_no (a b : ByteArray) (h : ¬ (a.size = 16 ∧ b.size = 16)) (hl : a.size ≤ 1048576) (hl2 : b.size ≤ 1048576) (w : World) :
    Calls Try.prog 10 #[.string a, .string b] w fun e w' => e = .returned (.tuple #[.string ⟨#[]⟩, .bool false]) ∧ Below w.heap.size w w' := by
  by_cases hk : a.size = 16
  · have h1 : ((b.size : Int) != 16) = true := by simp; omega
    go_enter Try.func10, Try.ntmps10
    go_wp2
    go_ret2
    exact ⟨rfl, Below.refl _ _⟩
  · have h1 : ((a.size : Int) != 16) = true := by simp; omega
    go_enter Try.func10, Try.ntmps10
    go_wp2
    go_ret2
    exact ⟨rfl, Below.refl _ _⟩
end Go.Proofs.Ytgoafbhhihfkfaa
