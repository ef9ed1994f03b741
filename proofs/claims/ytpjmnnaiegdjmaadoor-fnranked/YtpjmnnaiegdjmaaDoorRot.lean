/-
  Contracts: the model's roots.
-/
import Derived.Test.YtpjmnnaiegdjmaaDoorFit
import Derived.Laws.BitsLemmas
namespace Go.Proofs.YtpjmnnaiegdjmaaDoor
open Go.ChangeShapes Go.WideShapes Go.ChangeAt Go.RowKit
set_option linter.unusedVariables false

theorem fits_le (m R X q : Nat) (hq : 0 < q) (h1 : R ^ q ≤ X) (h2 : X < (R + 1) ^ q) : decide (m ^ q ≤ X) = decide (m ≤ R) := by
  by_cases h : m ≤ R
  · rw [decide_eq_true h, decide_eq_true (Nat.le_trans (Nat.pow_le_pow_left h q) h1)]
  · rw [decide_eq_false h, decide_eq_false]
    have : (R + 1) ^ q ≤ m ^ q := Nat.pow_le_pow_left (by omega) q
    omega

theorem pow36 (d : Nat) (h : d ≤ 36) : 2 ^ d ≤ 68719476736 := Nat.le_trans (Nat.pow_le_pow_right (by omega) h) (by decide)
theorem bit_put (R d : Nat) (hd : d ≤ 36) (hR : R < 137438953472) : bits .or .i64 ((R / 2 ^ (d + 1) * 2 ^ (d + 1) : Nat) : Int) (wrap64 (2 ^ d)) = ((R / 2 ^ (d + 1) * 2 ^ (d + 1) + 2 ^ d : Nat) : Int) := by
  have h36 := pow36 d hd
  have hN : R / 2 ^ (d + 1) * 2 ^ (d + 1) ≤ R := Nat.div_mul_le_self _ _
  have e2 : ((2 : Int) ^ d) = ((2 ^ d : Nat) : Int) := by simp
  have e3 : wrap64 (2 ^ d) = ((2 ^ d : Nat) : Int) := by rw [e2]; generalize 2 ^ d = Q at h36 ⊢; unfold wrap64; omega
  have h1 : 2 ^ d < 2 ^ (d + 1) := Nat.pow_lt_pow_right (by omega) (by omega)
  have h2 := Nat.two_pow_add_eq_or_of_lt h1 (R / 2 ^ (d + 1))
  rw [Nat.mul_comm] at h2
  rw [e3, (bits_nat .i64 63 (by decide) (fun n h0 h1 => wraps_i64 n h0 h1) _ _ (by omega) (by omega)).2, ← h2]
theorem bit_next (R d : Nat) : R / 2 ^ d * 2 ^ d = if R / 2 ^ (d + 1) * 2 ^ (d + 1) + 2 ^ d ≤ R then R / 2 ^ (d + 1) * 2 ^ (d + 1) + 2 ^ d else R / 2 ^ (d + 1) * 2 ^ (d + 1) := by
  have h1 : R / 2 ^ (d + 1) = R / 2 ^ d / 2 := by rw [Nat.pow_succ, Nat.div_div_eq_div_mul]
  have h2 := Nat.div_add_mod R (2 ^ d)
  have h3 := Nat.mod_lt R (Nat.two_pow_pos d)
  rw [h1, Nat.pow_succ]
  generalize hy : R / 2 ^ d = y at *
  generalize 2 ^ d = Q at *
  have h4 : y / 2 * (Q * 2) = (y / 2 * 2) * Q := by rw [Nat.mul_comm Q 2, Nat.mul_assoc]
  have e : y % 2 = 0 ∨ y % 2 = 1 := by omega
  rw [h4]
  rcases e with e | e
  · have h5 : y / 2 * 2 = y := by omega
    rw [h5, if_neg (by rw [Nat.mul_comm]; omega)]
  · have h5 : y / 2 * 2 + 1 = y := by omega
    have h6 : y * Q = y / 2 * 2 * Q + Q := by rw [← Nat.succ_mul, Nat.succ_eq_add_one, h5]
    rw [if_pos (by rw [Nat.mul_comm] at h2; omega), h6]

set_option maxRecDepth 100000 in
set_option maxHeartbeats 400000 in
theorem specRoot (p q R : Nat) (hp : p < 4294967296) (hq : q ≤ 3) (hq0 : 0 < q) (hR : R < 137438953472) (h1 : R ^ q ≤ p * 4294967296 ^ q) (h2 : p * 4294967296 ^ q < (R + 1) ^ q) (w : World) :
    Calls Tryd.prog 79 #[.int .i64 p, .int .i64 q] w fun e w' => e = .returned (.int .u32 ((R % 4294967296 : Nat) : Int)) ∧ Below w.heap.size w w' := by
  have HF := hide (fun m (hm : m < 137438953472) W => specFits m p q hm hp hq W)
  have HL := hide (fun m => fits_le m R _ q hq0 h1 h2)
  clear h1 h2
  go_enter Tryd.func79, Tryd.ntmps79
  go_wp2_with fail
  go_loopw [5, 6] (fun nv bv wx => ∃ c : Nat, c ≤ 37 ∧ bv = .int .i64 ((c : Int) - 1) ∧ nv = .int .i64 ((R / 2 ^ c * 2 ^ c : Nat) : Int) ∧ Below w.heap.size w wx) (fun _ bv _ => (intOf bv + 1).toNat)
  case atStart => exact ⟨37, by omega, rfl, by rw [Nat.div_eq_of_lt (by omega)]; rfl, Below.refl _ _⟩
  case round =>
    obtain ⟨c, hc, rfl, rfl, hb⟩ := hrel
    by_cases hl : 0 < c
    · obtain ⟨d, rfl⟩ : ∃ d, c = d + 1 := ⟨c - 1, by omega⟩
      have e1 : (((d + 1 : Nat)) : Int) - 1 = (d : Int) := by omega
      rw [e1]
      have hput := bit_put R d (by omega) hR
      have hnx := bit_next R d
      have h36 := pow36 d (by omega)
      have hNR : R / 2 ^ (d + 1) * 2 ^ (d + 1) ≤ R := Nat.div_mul_le_self _ _
      have hQ : R / 2 ^ (d + 1) * 2 ^ (d + 1) + 2 ^ d < 137438953472 := by
        have := Nat.div_mul_le_self R (2 ^ (d + 1))
        have h9 : R / 2 ^ (d + 1) < 2 ^ (36 - d) := by
          rw [Nat.div_lt_iff_lt_mul (Nat.two_pow_pos _), ← Nat.pow_add, show 36 - d + (d + 1) = 37 by omega]; omega
        have h10 : (R / 2 ^ (d + 1) + 1) * 2 ^ (d + 1) ≤ 2 ^ (36 - d) * 2 ^ (d + 1) := Nat.mul_le_mul_right _ h9
        rw [← Nat.pow_add, show 36 - d + (d + 1) = 37 by omega, Nat.succ_mul, Nat.pow_succ 2 d] at h10
        have := Nat.two_pow_pos d
        rw [Nat.pow_succ 2 d]
        omega
      have hL := unhide HL (R / 2 ^ (d + 1) * 2 ^ (d + 1) + 2 ^ d)
      generalize R / 2 ^ (d + 1) * 2 ^ (d + 1) + 2 ^ d = M at *
      generalize R / 2 ^ (d + 1) * 2 ^ (d + 1) = N at *
      have HFM := hide (unhide HF M hQ)
      rw [hL] at HFM
      have HP := hide hput
      have HX := hide hnx
      have HB := hide hb
      have hwz := hb.size
      clear hput hnx hL hb
      by_cases hM : M ≤ R
      · rw [if_pos hM] at HX
        rw [decide_eq_true hM] at HFM
        go_wp2_with (rw [unhide HP]; go_at_call 88; with_reducible refine (unhide HFM _).mono ?_; rintro e w1 ⟨rfl, hb1⟩)
        exact ⟨⟨d, by omega, rfl, by rw [unhide HX], (unhide HB).trans (hb1.mono hwz)⟩, by simp [intOf]⟩
      · rw [if_neg hM] at HX
        rw [decide_eq_false hM] at HFM
        go_wp2_with (rw [unhide HP]; go_at_call 88; with_reducible refine (unhide HFM _).mono ?_; rintro e w1 ⟨rfl, hb1⟩)
        exact ⟨⟨d, by omega, rfl, by rw [unhide HX], (unhide HB).trans (hb1.mono hwz)⟩, by simp [intOf]⟩
    · obtain rfl : c = 0 := by omega
      have HB := hide hb
      clear hb
      rw [Nat.pow_zero, Nat.div_one, Nat.mul_one]
      go_wp2_with fail
      go_ret
      exact ⟨by rw [Int.natCast_emod]; rfl, unhide HB⟩
end Go.Proofs.YtpjmnnaiegdjmaaDoor
