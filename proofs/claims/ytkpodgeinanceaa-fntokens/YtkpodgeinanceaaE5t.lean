/-
  Contracts: the program's product of two blocks.
-/
import Derived.Test.YtkpodgeinanceaaE5b
namespace Go.Proofs.Ytkpodgeinanceaa
open Go.ChangeShapes Go.WideShapes Go.ChangeAt Go.RowKit
set_option linter.unusedVariables false

theorem and63 (x : Nat) (hx : x < 18446744073709551616) : bits .and .u64 (x : Int) 9223372036854775808 = ((x / 9223372036854775808 * 9223372036854775808 : Nat) : Int) := by
  show IntKind.u64.wrap (((BitVec.ofInt 64 (x : Int) &&& BitVec.ofInt 64 9223372036854775808).toNat : Nat) : Int) = _
  have e : (x &&& 9223372036854775808) = x / 9223372036854775808 * 9223372036854775808 := by
    apply Nat.eq_of_testBit_eq
    intro i
    rw [Nat.testBit_and, show (9223372036854775808 : Nat) = 2 ^ 63 from rfl, Nat.testBit_two_pow]
    by_cases h : 63 = i
    · subst h
      rw [Nat.testBit_eq_decide_div_mod_eq, Nat.testBit_eq_decide_div_mod_eq, Nat.mul_div_cancel _ (by decide)]
      simp
    · have h1 : x / 2 ^ 63 = 0 ∨ x / 2 ^ 63 = 1 := by omega
      rw [decide_eq_false h, Bool.and_false]
      rcases h1 with h1 | h1
      · rw [h1, Nat.zero_mul, Nat.zero_testBit]
      · rw [h1, Nat.one_mul, Nat.testBit_two_pow, decide_eq_false h]
  rw [BitVec.toNat_and, BitVec.toNat_ofInt, show (BitVec.ofInt 64 9223372036854775808).toNat = 9223372036854775808 from rfl, show ((x : Int) % ((2 ^ 64 : Nat) : Int)).toNat = x by omega, e, IntKind.wrap_u64]
  omega
/-- a word moved up by i bits -/
def hfW (W i : Nat) : Nat := W * 2 ^ i % 18446744073709551616
theorem hfW_lt (W i : Nat) : hfW W i < 18446744073709551616 := Nat.mod_lt _ (by omega)
theorem hfW_zero (W : Nat) (h : W < 18446744073709551616) : hfW W 0 = W := by
  unfold hfW
  rw [Nat.pow_zero, Nat.mul_one, Nat.mod_eq_of_lt h]
theorem hfW_next (W i : Nat) : hfW W (i + 1) = hfW W i * 2 % 18446744073709551616 := by
  unfold hfW
  rw [Nat.pow_succ, ← Nat.mul_assoc, Nat.mod_mul_mod]
theorem hfW_bit (W i : Nat) (hi : i < 64) : hfW W i / 9223372036854775808 = W / 2 ^ (63 - i) % 2 := by
  unfold hfW
  have e1 : (18446744073709551616 : Nat) = 2 ^ i * 2 ^ (64 - i) := by rw [← Nat.pow_add, show i + (64 - i) = 64 by omega]
  have e2 : (9223372036854775808 : Nat) = 2 ^ i * 2 ^ (63 - i) := by rw [← Nat.pow_add, show i + (63 - i) = 63 by omega]
  have e3 : 2 ^ (64 - i) = 2 ^ (63 - i) * 2 := by rw [← Nat.pow_succ]; congr 1; omega
  rw [e1, e2, Nat.mul_comm W, Nat.mul_mod_mul_left, Nat.mul_div_mul_left _ _ (Nat.two_pow_pos i), e3, Nat.mod_mul_right_div_self]
theorem bsP_next (bh bl n : Nat) : bsP bh bl (n + 1) = bsP (bsP bh bl n).1 (bsP bh bl n).2 1 := rfl
set_option maxRecDepth 100000 in
set_option maxHeartbeats 1000000 in
theorem implTimes (ah al bh bl : Nat) (hah : ah < 18446744073709551616) (hal : al < 18446744073709551616) (hbh : bh < 18446744073709551616) (hbl : bl < 18446744073709551616) (w : World) :
    Calls Try.prog 93 #[.agg #[.int .u64 (ah : Nat), .int .u64 (al : Nat)], .agg #[.int .u64 (bh : Nat), .int .u64 (bl : Nat)]] w fun e w' => e = .returned (.agg #[.int .u64 ((ouP ah al bh bl 128).1 : Nat), .int .u64 ((ouP ah al bh bl 128).2 : Nat)]) ∧ Below w.heap.size w w' := by
  have HBL := hide (fun i => bsP_lt bh bl hbh hbl i)
  have HOL := hide (fun i => ouP_lt ah al bh bl hbh hbl i)
  have HBN := hide (fun n => bsP_next bh bl n)
  have HON : Hid (∀ n, ouP ah al bh bl (n + 1) = if btA ah al n = 1 then ((ouP ah al bh bl n).1 ^^^ (bsP bh bl n).1, (ouP ah al bh bl n).2 ^^^ (bsP bh bl n).2) else ouP ah al bh bl n) := fun n => rfl
  have HB0 : Hid (bsP bh bl 0 = (bh, bl)) := rfl
  have HO0 : Hid (ouP ah al bh bl 0 = (0, 0)) := rfl
  have HIX : Hid (∀ j : Nat, j < 2 → ∃ X : Nat, X < 18446744073709551616 ∧ (∀ i, i < 64 → btA ah al (64 * j + i) = X / 2 ^ (63 - i) % 2) ∧ ∀ V : World, (Instr.index 142 (.agg #[.int .u64 (ah : Nat), .int .u64 (al : Nat)]) (.int .i64 (j : Nat))).run Try.prog V = .ok (.int .u64 (X : Nat)) V) := fun j hj => by
    have e : j = 0 ∨ j = 1 := by omega
    rcases e with rfl | rfl
    · refine ⟨ah, hah, fun i hi => ?_, fun V => ?_⟩
      · unfold btA
        rw [if_pos (by omega), show 64 * 0 + i = i by omega]
      · rfl
    · refine ⟨al, hal, fun i hi => ?_, fun V => ?_⟩
      · unfold btA
        rw [if_neg (by omega), show 127 - (64 * 1 + i) = 63 - i by omega]
      · rfl
  generalize bsP bh bl = BS at *
  generalize ouP ah al bh bl = OU at *
  generalize btA ah al = BT at *
  go_enter Try.func93, Try.ntmps93
  go_wp2_with fail
  have d0 := q2_own w ah al 82
  have e0 := (Below.refl w.heap.size w).alloc (Nat.le_refl _) (.cells #[.int .u64 (ah : Nat), .int .u64 (al : Nat)] 82)
  have z0 : (w.alloc (.cells #[.int .u64 (ah : Nat), .int .u64 (al : Nat)] 82)).heap.size = w.heap.size + 1 := by simp
  generalize w.alloc (.cells #[.int .u64 (ah : Nat), .int .u64 (al : Nat)] 82) = W0 at d0 e0 z0 ⊢
  have d1 := q2_own W0 bh bl 82
  have e1 := e0.alloc (by omega) (.cells #[.int .u64 (bh : Nat), .int .u64 (bl : Nat)] 82)
  have z1 : (W0.alloc (.cells #[.int .u64 (bh : Nat), .int .u64 (bl : Nat)] 82)).heap.size = w.heap.size + 1 + 1 := by simp [z0]
  generalize W0.alloc (.cells #[.int .u64 (bh : Nat), .int .u64 (bl : Nat)] 82) = W1 at d1 e1 z1 ⊢
  rw [z0] at d1
  have d2 : Q2 (W1.alloc (.cells #[.int .u64 0, .int .u64 0] 82)) W1.heap.size 0 0 := q2_own W1 0 0 82
  have d1' := d1.alloc (.cells #[.int .u64 0, .int .u64 0] 82) (by omega)
  have e2 := e1.alloc (by omega) (.cells #[.int .u64 0, .int .u64 0] 82)
  have z2 : (W1.alloc (.cells #[.int .u64 0, .int .u64 0] 82)).heap.size = w.heap.size + 1 + 1 + 1 := by simp [z1]
  generalize W1.alloc (.cells #[.int .u64 0, .int .u64 0] 82) = W2 at d2 d1' e2 z2 ⊢
  rw [z1] at d2
  have d3 : Q2 (W2.alloc (.cells #[.int .u64 0, .int .u64 0] 82)) W2.heap.size 0 0 := q2_own W2 0 0 82
  have f1 := hide (d1'.alloc (.cells #[.int .u64 0, .int .u64 0] 82) (by omega))
  have f2 := hide (d2.alloc (.cells #[.int .u64 0, .int .u64 0] 82) (by omega))
  have e3 := hide (e2.alloc (by omega) (.cells #[.int .u64 0, .int .u64 0] 82))
  have z3 : (W2.alloc (.cells #[.int .u64 0, .int .u64 0] 82)).heap.size = w.heap.size + 1 + 1 + 1 + 1 := by simp [z2]
  rw [z2] at d3
  have f3 := hide d3
  have k3 := hide z3
  generalize W2.alloc (.cells #[.int .u64 0, .int .u64 0] 82) = W3 at f1 f2 f3 e3 k3 ⊢
  clear d0 e0 z0 d1 e1 z1 d2 d1' e2 z2 d3 z3
  go_loopw [13] (fun jv wr => ∃ j : Nat, j ≤ 2 ∧ jv = .int .i64 j ∧ Q2 wr (w.heap.size + 1) (BS (64 * j)).1 (BS (64 * j)).2 ∧ Q2 wr (w.heap.size + 1 + 1) 0 0 ∧ Q2 wr (w.heap.size + 1 + 1 + 1) (OU (64 * j)).1 (OU (64 * j)).2 ∧ w.heap.size + 1 + 1 + 1 + 1 ≤ wr.heap.size ∧ Below w.heap.size w wr) (fun jv _ => 2 - (intOf jv).toNat)
  case atStart => exact ⟨0, by omega, rfl, by rw [Nat.mul_zero, unhide HB0]; exact unhide f1, unhide f2, by rw [Nat.mul_zero, unhide HO0]; exact unhide f3, by rw [unhide k3]; exact Nat.le_refl _, unhide e3⟩
  case round =>
    obtain ⟨j, hj, rfl, q1, q2, q3, hsz, hB⟩ := hrel
    clear f1 f2 f3 e3 k3
    by_cases hlt : j < 2
    · obtain ⟨X, hX, hbt, hix⟩ := unhide HIX j hlt
      have HBT := hide hbt
      have R1 := hide q1
      have R2 := hide q2
      have R3 := hide q3
      have RB := hide hB
      clear hbt q1 q2 q3 hB
      go_wp2_with fail
      generalize decide ((j : Int) < 2) = dj
      go_loopw [7, 16] (fun hv iv wr => ∃ i : Nat, i ≤ 64 ∧ iv = .int .i64 i ∧ hv = .int .u64 (hfW X i : Nat) ∧ Q2 wr (w.heap.size + 1) (BS (64 * j + i)).1 (BS (64 * j + i)).2 ∧ Q2 wr (w.heap.size + 1 + 1) 0 0 ∧ Q2 wr (w.heap.size + 1 + 1 + 1) (OU (64 * j + i)).1 (OU (64 * j + i)).2 ∧ w.heap.size + 1 + 1 + 1 + 1 ≤ wr.heap.size ∧ Below w.heap.size w wr) (fun _ iv _ => 64 - (intOf iv).toNat)
      case atStart => exact ⟨0, by omega, rfl, by rw [hfW_zero X hX], unhide R1, unhide R2, unhide R3, hsz, unhide RB⟩
      case round =>
        obtain ⟨i, hi, rfl, rfl, q1, q2, q3, hsz, hB⟩ := hrel
        clear R1 R2 R3 RB
        by_cases hli : i < 64
        · obtain ⟨n, hn⟩ : ∃ n : Nat, n = 64 * j + i := ⟨_, rfl⟩
          rw [← hn] at q1 q3
          have hbt := unhide HBT i hli
          rw [← hn, ← hfW_bit X i hli] at hbt
          have hnx := hfW_next X i
          have hv64 := hfW_lt X i
          obtain ⟨hb1, hb2⟩ := unhide HBL n
          obtain ⟨ho1, ho2⟩ := unhide HOL n
          have aA := and63 (hfW X i) hv64
          have HBS := hide (unhide HBN n)
          have HOS := hide (unhide HON n)
          have HN := hide hn
          have hn1 : Hid (64 * j + (i + 1) = n + 1) := by rw [hn]; exact rfl
          clear hn
          have HBL' := unhide HBL (n + 1)
          rw [unhide HBS] at HBL'
          have hP : Hid (OU n = ((OU n).1, (OU n).2)) := rfl
          generalize (BS n).1 = H at *
          generalize (BS n).2 = L at *
          generalize (OU n).1 = P at *
          generalize (OU n).2 = Y at *
          generalize hvd : hfW X i = v at *
          have HX := hide (fun W => implXorE P Y H L ho1 ho2 hb1 hb2 W)
          have HT := hide (fun W => implTimesX H L hb1 hb2 W)
          have HNX : Hid (IntKind.u64.wrap ((v : Int) * 2) = ((hfW X (i + 1) : Nat) : Int)) := by rw [hnx, IntKind.wrap_u64]; exact (show (v : Int) * 2 % 18446744073709551616 = ((v * 2 % 18446744073709551616 : Nat) : Int) by omega)
          obtain ⟨hl1, hl2⟩ := HBL'
          generalize hg1 : (bsP H L 1).1 = H' at *
          generalize hg2 : (bsP H L 1).2 = L' at *
          have HG : Hid (BS (n + 1) = (H', L')) := by rw [unhide HBS, ← hg1, ← hg2]; exact rfl
          clear hg1 hg2 hnx hvd
          have R1 := hide q1
          have R2 := hide q2
          have R3 := hide q3
          have RB := hide hB
          have u0 := q1.c0
          have u1 := q1.c1
          have u2 := q3.c0
          have u3 := q3.c1
          clear q1 q2 q3 hB
          have hs1 : w.heap.size + 1 < wr.heap.size := by omega
          have hs2 : w.heap.size + 1 + 1 < wr.heap.size := by omega
          have hs3 : w.heap.size + 1 + 1 + 1 < wr.heap.size := by omega
          by_cases hbit : BT n = 1
          · have t1 : bits .and .u64 (v : Int) 9223372036854775808 = 9223372036854775808 := by rw [aA]; omega
            have HOT : Hid (OU (n + 1) = (P ^^^ H, Y ^^^ L)) := by rw [unhide HOS, if_pos hbit]; exact rfl
            clear aA hbt hbit
            go_wp2_with (first | (go_at_call 92; with_reducible refine (unhide HX _).mono ?_; rintro e w4 ⟨rfl, b4⟩; have K1 := (unhide R1).keep b4 hs1; have K2 := hide ((unhide R2).keep b4 hs2); have K3 := (unhide R3).keep b4 hs3; have KB := hide ((unhide RB).trans (b4.mono (unhide RB).size)); have hz4 := hide b4.size; clear b4; have k0 := K1.c0; have k1 := K1.c1; have k2 := K3.c0; have k3 := K3.c1; have k4 := K3.f0; have k5 := K3.f1; have K1 := hide K1; have K3 := hide K3; clear u0 u1 u2 u3))
            have M1 := ((unhide K1).other (b' := w.heap.size + 1 + 1 + 1) (k := 0) (v := .int .u64 ((P ^^^ H : Nat) : Int)) (by omega)).other (b' := w.heap.size + 1 + 1 + 1) (k := 1) (v := .int .u64 ((Y ^^^ L : Nat) : Int)) (by omega)
            have M2 := ((unhide K2).other (b' := w.heap.size + 1 + 1 + 1) (k := 0) (v := .int .u64 ((P ^^^ H : Nat) : Int)) (by omega)).other (b' := w.heap.size + 1 + 1 + 1) (k := 1) (v := .int .u64 ((Y ^^^ L : Nat) : Int)) (by omega)
            have M3 := ((unhide K3).put0 (P ^^^ H)).put1 (Y ^^^ L)
            have MB := ((unhide KB).setCell (p := ⟨w.heap.size + 1 + 1 + 1, 0, none⟩) (show w.heap.size ≤ w.heap.size + 1 + 1 + 1 by omega) (.int .u64 ((P ^^^ H : Nat) : Int))).setCell (p := ⟨w.heap.size + 1 + 1 + 1, 1, none⟩) (show w.heap.size ≤ w.heap.size + 1 + 1 + 1 by omega) (.int .u64 ((Y ^^^ L : Nat) : Int))
            have hz5 : w.heap.size + 1 + 1 + 1 + 1 ≤ ((w4.setCell ⟨w.heap.size + 1 + 1 + 1, 0, none⟩ (.int .u64 ((P ^^^ H : Nat) : Int))).setCell ⟨w.heap.size + 1 + 1 + 1, 1, none⟩ (.int .u64 ((Y ^^^ L : Nat) : Int))).heap.size := by
              have := unhide hz4
              simp [World.setCell]
              omega
            generalize (w4.setCell ⟨w.heap.size + 1 + 1 + 1, 0, none⟩ (.int .u64 ((P ^^^ H : Nat) : Int))).setCell ⟨w.heap.size + 1 + 1 + 1, 1, none⟩ (.int .u64 ((Y ^^^ L : Nat) : Int)) = W5 at M1 M2 M3 MB hz5 ⊢
            clear K1 K2 K3 KB k0 k1 k2 k3 k4 k5 hz4
            refine (unhide HT _).mono ?_
            rintro e w6 ⟨rfl, b6⟩
            have N1 := M1.keep b6 (by omega)
            have k0 := N1.c0
            have k1 := N1.c1
            have k2 := N1.f0
            have k3 := N1.f1
            have T1 := hide ((N1.put0 H').put1 L')
            have T2 := hide (((M2.keep b6 (by omega)).other (b' := w.heap.size + 1) (k := 0) (v := .int .u64 (H' : Nat)) (by omega)).other (b' := w.heap.size + 1) (k := 1) (v := .int .u64 (L' : Nat)) (by omega))
            have T3 := hide (((M3.keep b6 (by omega)).other (b' := w.heap.size + 1) (k := 0) (v := .int .u64 (H' : Nat)) (by omega)).other (b' := w.heap.size + 1) (k := 1) (v := .int .u64 (L' : Nat)) (by omega))
            have TB := hide (((MB.trans (b6.mono MB.size)).setCell (p := ⟨w.heap.size + 1, 0, none⟩) (show w.heap.size ≤ w.heap.size + 1 by omega) (.int .u64 (H' : Nat))).setCell (p := ⟨w.heap.size + 1, 1, none⟩) (show w.heap.size ≤ w.heap.size + 1 by omega) (.int .u64 (L' : Nat)))
            have hz6 : Hid (w.heap.size + 1 + 1 + 1 + 1 ≤ ((w6.setCell ⟨w.heap.size + 1, 0, none⟩ (.int .u64 (H' : Nat))).setCell ⟨w.heap.size + 1, 1, none⟩ (.int .u64 (L' : Nat))).heap.size) := by
              have := b6.size
              simp only [World.setCell, Array.size_modify]
              exact Nat.le_trans hz5 this
            clear N1 M1 M2 M3 MB b6 hz5
            go_wp2
            exact ⟨⟨i + 1, by omega, by go_num, by rw [unhide HNX], by rw [unhide hn1, unhide HG]; exact unhide T1, unhide T2, by rw [unhide hn1, unhide HOT]; exact unhide T3, unhide hz6, unhide TB⟩, by simp [intOf]; omega⟩
          · have t1 : bits .and .u64 (v : Int) 9223372036854775808 = 0 := by rw [aA]; omega
            have HOT : Hid (OU (n + 1) = (P, Y)) := by rw [unhide HOS, if_neg hbit]; exact unhide hP
            clear aA hbt hbit
            go_wp2_with (first | (go_at_call 103; with_reducible refine (unhide HT _).mono ?_; rintro e w6 ⟨rfl, b6⟩; have N1 := (unhide R1).keep b6 hs1; have k0 := N1.c0; have k1 := N1.c1; have k2 := N1.f0; have k3 := N1.f1; have N1 := hide N1; have B6 := hide b6; clear b6 u0 u1 u2 u3))
            have b6 := unhide B6
            have T1 := hide (((unhide N1).put0 H').put1 L')
            have T2 := hide ((((unhide R2).keep b6 (by omega)).other (b' := w.heap.size + 1) (k := 0) (v := .int .u64 (H' : Nat)) (by omega)).other (b' := w.heap.size + 1) (k := 1) (v := .int .u64 (L' : Nat)) (by omega))
            have T3 := hide ((((unhide R3).keep b6 (by omega)).other (b' := w.heap.size + 1) (k := 0) (v := .int .u64 (H' : Nat)) (by omega)).other (b' := w.heap.size + 1) (k := 1) (v := .int .u64 (L' : Nat)) (by omega))
            have TB := hide ((((unhide RB).trans (b6.mono (unhide RB).size)).setCell (p := ⟨w.heap.size + 1, 0, none⟩) (show w.heap.size ≤ w.heap.size + 1 by omega) (.int .u64 (H' : Nat))).setCell (p := ⟨w.heap.size + 1, 1, none⟩) (show w.heap.size ≤ w.heap.size + 1 by omega) (.int .u64 (L' : Nat)))
            have hz6 : Hid (w.heap.size + 1 + 1 + 1 + 1 ≤ ((w6.setCell ⟨w.heap.size + 1, 0, none⟩ (.int .u64 (H' : Nat))).setCell ⟨w.heap.size + 1, 1, none⟩ (.int .u64 (L' : Nat))).heap.size) := by
              have := b6.size
              simp only [World.setCell, Array.size_modify]
              exact Nat.le_trans hsz this
            exact ⟨⟨i + 1, by omega, by go_num, by rw [unhide HNX], by rw [unhide hn1, unhide HG]; exact unhide T1, unhide T2, by rw [unhide hn1, unhide HOT]; exact unhide T3, unhide hz6, unhide TB⟩, by simp [intOf]; omega⟩
        · obtain rfl : i = 64 := by omega
          have R1 := hide q1
          have R2 := hide q2
          have R3 := hide q3
          have RB := hide hB
          have e64 : Hid (64 * j + 64 = 64 * (j + 1)) := by exact rfl
          clear q1 q2 q3 hB
          go_wp2
          exact ⟨⟨j + 1, by omega, by go_num, by rw [← unhide e64]; exact unhide R1, unhide R2, by rw [← unhide e64]; exact unhide R3, hsz, unhide RB⟩, by simp [intOf]; omega⟩
    · obtain rfl : j = 2 := by omega
      have c0 := q3.c0
      have c1 := q3.c1
      have g0 := q2.f0
      have g1 := q2.f1
      have k0 := q2.c0
      have k1 := q2.c1
      have R := hide ((q2.put0 (OU 128).1).put1 (OU 128).2)
      have B := hide ((hB.setCell (p := ⟨w.heap.size + 1 + 1, 0, none⟩) (show w.heap.size ≤ w.heap.size + 1 + 1 by omega) (.int .u64 ((OU 128).1 : Nat))).setCell (p := ⟨w.heap.size + 1 + 1, 1, none⟩) (show w.heap.size ≤ w.heap.size + 1 + 1 by omega) (.int .u64 ((OU 128).2 : Nat)))
      clear q1 q2 q3 hB
      go_wp2
      refine ret_two 4 (w.heap.size + 1 + 1) (OU 128).1 (OU 128).2 82 _ ?r1 ?r2 ?r3 (unhide R) Try.underlying82 rfl info_el ?_
      case r1 => rfl
      case r2 => rfl
      case r3 => rfl
      exact ⟨rfl, unhide B⟩
end Go.Proofs.Ytkpodgeinanceaa
