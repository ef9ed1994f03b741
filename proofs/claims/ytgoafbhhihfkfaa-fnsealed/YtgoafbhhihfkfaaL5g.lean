/-
  The model's words and the field of blocks.
-/
import Derived.Test.YtgoafbhhihfkfaaL5wX
import Derived.Test.YtgoafbhhihfkfaaGfb
namespace Go.Proofs.Ytgoafbhhihfkfaa
set_option linter.unusedVariables false

/-- two words as one number -/
def cm (h l : Nat) : Nat := h * 18446744073709551616 + l
theorem cm_lt (h l : Nat) (hh : h < 18446744073709551616) (hl : l < 18446744073709551616) : cm h l < 2 ^ 128 := by
  unfold cm
  have : (2 : Nat) ^ 128 = 18446744073709551616 * 18446744073709551616 := by decide
  omega
theorem cm_bit (h l j : Nat) (hl : l < 18446744073709551616) : (cm h l).testBit j = if j < 64 then l.testBit j else h.testBit (j - 64) := by
  have := Nat.testBit_two_pow_mul_add (i := 64) (b := l) h (by omega) j
  rw [← this]
  unfold cm
  rw [Nat.mul_comm]
theorem cm_xor (a b c d : Nat) (hb : b < 18446744073709551616) (hd : d < 18446744073709551616) : cm a b ^^^ cm c d = cm (a ^^^ c) (b ^^^ d) := by
  apply Nat.eq_of_testBit_eq
  intro j
  rw [Nat.testBit_xor, cm_bit a b j hb, cm_bit c d j hd, cm_bit _ _ j (Nat.xor_lt_two_pow (n := 64) hb hd), Nat.testBit_xor, Nat.testBit_xor]
  split <;> rfl
theorem cm_inj (a b c d : Nat) (hb : b < 18446744073709551616) (hd : d < 18446744073709551616) (h : cm a b = cm c d) : a = c ∧ b = d := by
  unfold cm at h
  omega
theorem cm_xT (h l : Nat) (hh : h < 18446744073709551616) (hl : l < 18446744073709551616) : xT (cm h l) = cm (if l % 2 = 1 then h / 2 ^^^ 16212958658533785600 else h / 2) (l / 2 + h % 2 * 9223372036854775808) := by
  unfold xT
  have e1 : cm h l / 2 = cm (h / 2) (l / 2 + h % 2 * 9223372036854775808) := by unfold cm; omega
  have e2 : cm h l % 2 = l % 2 := by unfold cm; omega
  rw [e1, e2]
  by_cases e : l % 2 = 1
  · rw [if_pos e, e, Nat.one_mul, show (299076299051606071403356588563077529600 : Nat) = cm 16212958658533785600 0 by unfold cm; decide, cm_xor _ _ _ _ (by omega) (by omega), Nat.xor_zero]
  · rw [if_neg e, show l % 2 = 0 by omega, Nat.zero_mul, Nat.xor_zero]
theorem cm_bsP (bh bl : Nat) (h1 : bh < 18446744073709551616) (h2 : bl < 18446744073709551616) : ∀ i, cm (bsP bh bl i).1 (bsP bh bl i).2 = xI (cm bh bl) i
  | 0 => rfl
  | i + 1 => by
    obtain ⟨h3, h4⟩ := bsP_lt bh bl h1 h2 i
    rw [xI, ← cm_bsP bh bl h1 h2 i, cm_xT _ _ h3 h4]
    rfl
theorem cm_btA (ah al i : Nat) (hl : al < 18446744073709551616) (hi : i < 128) : (cm ah al).testBit (127 - i) = decide (btA ah al i = 1) := by
  rw [cm_bit _ _ _ hl]
  unfold btA
  by_cases e : i < 64
  · rw [if_neg (by omega), if_pos e, Nat.testBit_eq_decide_div_mod_eq, show 127 - i - 64 = 63 - i by omega]
  · rw [if_pos (by omega), if_neg e, Nat.testBit_eq_decide_div_mod_eq]
theorem hm_front (a b : Nat) (f : Nat → Nat) (h0 : f 0 = 0) (hs : ∀ i, i < 128 → f (i + 1) = f i ^^^ bif a.testBit (127 - i) then xI b i else 0) : ∀ k, k ≤ 128 → gm a b = f k ^^^ xI (hm a b (128 - k)) k
  | 0, _ => by rw [h0, Nat.zero_xor]; rfl
  | k + 1, h => by
    rw [hm_front a b f h0 hs k (by omega), hs k (by omega), show 128 - k = (127 - k) + 1 by omega, hm, show 128 - (k + 1) = 127 - k by omega, xI_xor, xT_xI, Nat.xor_comm (xT _), ← Nat.xor_assoc]
    congr 2
    cases a.testBit (127 - k)
    · show xI 0 k = 0
      exact xI_zero k
    · rfl
theorem cm_ouP (ah al bh bl : Nat) (h2 : al < 18446744073709551616) (h3 : bh < 18446744073709551616) (h4 : bl < 18446744073709551616) : cm (ouP ah al bh bl 128).1 (ouP ah al bh bl 128).2 = gm (cm ah al) (cm bh bl) := by
  have := hm_front (cm ah al) (cm bh bl) (fun i => cm (ouP ah al bh bl i).1 (ouP ah al bh bl i).2) (by show 0 * 18446744073709551616 + 0 = 0; omega) (fun i hi => ?_) 128 (by omega)
  · rw [this, Nat.sub_self, hm, xI_zero, Nat.xor_zero]
  · show cm (ouP ah al bh bl (i + 1)).1 (ouP ah al bh bl (i + 1)).2 = _
    rw [cm_btA _ _ _ h2 hi]
    have e1 : ouP ah al bh bl (i + 1) = if btA ah al i = 1 then ((ouP ah al bh bl i).1 ^^^ (bsP bh bl i).1, (ouP ah al bh bl i).2 ^^^ (bsP bh bl i).2) else ouP ah al bh bl i := rfl
    rw [e1]
    by_cases e : btA ah al i = 1
    · rw [if_pos e, decide_eq_true e, cond_true, ← cm_bsP bh bl h3 h4 i, cm_xor _ _ _ _ (ouP_lt ah al bh bl h3 h4 i).2 (bsP_lt bh bl h3 h4 i).2]
    · rw [if_neg e, decide_eq_false e, cond_false, Nat.xor_zero]
end Go.Proofs.Ytgoafbhhihfkfaa
