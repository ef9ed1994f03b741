/-
  Products of the field of 256: order, brackets, xor.
-/
import Derived.Test.YtldlhdohkghikaaGfp
namespace Go.Proofs.Ytldlhdohkghikaa
open Go.ChangeShapes Go.WideShapes Go.ChangeAt Go.RowKit
set_option linter.unusedVariables false

theorem dbl_xor_all : ∀ x y : Fin 256, dbl (x ^^^ y) = dbl x ^^^ dbl y := by decide +kernel
theorem dbl_xor (x y : Nat) (hx : x < 256) (hy : y < 256) : dbl (x ^^^ y) = dbl x ^^^ dbl y := dbl_xor_all ⟨x, hx⟩ ⟨y, hy⟩
theorem xor_left (a b c : Nat) : a ^^^ (b ^^^ c) = b ^^^ (a ^^^ c) := by rw [← Nat.xor_assoc, Nat.xor_comm a b, Nat.xor_assoc]
theorem xor_back (a b : Nat) : a ^^^ (a ^^^ b) = b := by rw [← Nat.xor_assoc, Nat.xor_self, Nat.zero_xor]
/-- a product, bit by bit -/
def sm : Nat → Nat → Nat → Nat
  | 0, _, _ => 0
  | k + 1, a, b => (if b % 2 = 1 then a else 0) ^^^ sm k (dbl a) (b / 2)
theorem sm_lt : ∀ k a b, a < 256 → sm k a b < 256
  | 0, _, _, _ => by simp [sm]
  | k + 1, a, b, h => by
    rw [sm]
    refine xor_lt _ _ ?_ (sm_lt k _ _ (dbl_lt a h))
    split <;> omega
theorem sm_zero : ∀ k a, sm k a 0 = 0
  | 0, _ => rfl
  | k + 1, a => by rw [sm]; simp [sm_zero k]
theorem mg_sm : ∀ k a b o, b < 2 ^ k → mg k a b o = o ^^^ sm k a b
  | 0, a, b, o, h => by
    obtain rfl : b = 0 := by simpa using h
    simp [mg, sm]
  | k + 1, a, b, o, h => by
    have h2 : b / 2 < 2 ^ k := by rw [Nat.pow_succ] at h; omega
    rw [sm]
    by_cases h0 : b = 0
    · subst h0
      simp [mg, sm_zero]
    · by_cases ho : b % 2 = 1
      · rw [show mg (k + 1) a b o = mg k (dbl a) (b / 2) (o ^^^ a) by simp [mg, h0, ho], mg_sm k _ _ _ h2, if_pos ho, Nat.xor_assoc]
      · rw [show mg (k + 1) a b o = mg k (dbl a) (b / 2) o by simp [mg, h0, ho], mg_sm k _ _ _ h2, if_neg ho, Nat.zero_xor]
theorem mul_sm (a b : Nat) (hb : b < 256) : mul a b = sm 8 a b := by
  have := mg_sm 8 a b 0 (by omega)
  rw [Nat.zero_xor] at this
  exact this
theorem sm_right : ∀ k a b c, sm k a (b ^^^ c) = sm k a b ^^^ sm k a c
  | 0, _, _, _ => by simp [sm]
  | k + 1, a, b, c => by
    rw [sm, sm, sm, Nat.xor_div_two, sm_right k]
    have hb : b % 2 = 0 ∨ b % 2 = 1 := by omega
    have hc : c % 2 = 0 ∨ c % 2 = 1 := by omega
    have hx : (b ^^^ c) % 2 = (b % 2 + c % 2) % 2 := by
      have := Nat.xor_mod_two_pow (a := b) (b := c) (n := 1)
      rw [Nat.pow_one] at this
      rw [this]
      rcases hb with e | e <;> rcases hc with f | f <;> rw [e, f] <;> rfl
    rw [hx]
    generalize sm k (dbl a) (b / 2) = p
    generalize sm k (dbl a) (c / 2) = q
    rcases hb with e | e <;> rcases hc with f | f <;> rw [e, f] <;> simp [Nat.xor_comm, xor_left, xor_back]
theorem sm_left : ∀ k a b c, a < 256 → b < 256 → sm k (a ^^^ b) c = sm k a c ^^^ sm k b c
  | 0, _, _, _, _, _ => by simp [sm]
  | k + 1, a, b, c, ha, hb => by
    rw [sm, sm, sm, dbl_xor a b ha hb, sm_left k _ _ _ (dbl_lt a ha) (dbl_lt b hb)]
    generalize sm k (dbl a) (c / 2) = p
    generalize sm k (dbl b) (c / 2) = q
    split <;> simp [Nat.xor_comm, xor_left]
theorem mul_right (a b c : Nat) (hb : b < 256) (hc : c < 256) : mul a (b ^^^ c) = mul a b ^^^ mul a c := by
  rw [mul_sm a _ (xor_lt _ _ hb hc), mul_sm a b hb, mul_sm a c hc, sm_right]
theorem mul_left (a b c : Nat) (ha : a < 256) (hb : b < 256) (hc : c < 256) : mul (a ^^^ b) c = mul a c ^^^ mul b c := by
  rw [mul_sm _ c hc, mul_sm a c hc, mul_sm b c hc, sm_left 8 a b c ha hb]
/-- what goes with xor is told by eight bytes -/
theorem ext8 (F G : Nat → Nat) (hF : ∀ x y, x < 256 → y < 256 → F (x ^^^ y) = F x ^^^ F y) (hG : ∀ x y, x < 256 → y < 256 → G (x ^^^ y) = G x ^^^ G y) (hb : ∀ i, i < 8 → F (2 ^ i) = G (2 ^ i)) : ∀ x, x < 256 → F x = G x := by
  have key : ∀ k, k ≤ 8 → ∀ x, x < 2 ^ k → F x = G x := by
    intro k
    induction k with
    | zero =>
      intro _ x hx
      obtain rfl : x = 0 := by simpa using hx
      have h1 := hF 0 0 (by omega) (by omega)
      have h2 := hG 0 0 (by omega) (by omega)
      simp at h1 h2
      rw [h1, h2]
    | succ k ih =>
      intro hk x hx
      have hp : 2 ^ k ≤ 2 ^ 7 := Nat.pow_le_pow_right (by omega) (by omega)
      by_cases h : x < 2 ^ k
      · exact ih (by omega) x h
      · rw [Nat.pow_succ] at hx
        have hy : x - 2 ^ k < 2 ^ k := by omega
        have e : x = 2 ^ k ^^^ (x - 2 ^ k) := by
          have h1 : 2 ^ k * 1 + (x - 2 ^ k) = 2 ^ k * 1 ^^^ (x - 2 ^ k) := by
            have := Nat.two_pow_add_eq_or_of_lt hy 1
            rw [this]
            apply Nat.eq_of_testBit_eq
            intro i
            rw [Nat.testBit_or, Nat.testBit_xor, Nat.mul_one, Nat.testBit_two_pow]
            by_cases ei : k = i
            · subst ei
              rw [Nat.testBit_lt_two_pow hy]
              simp
            · simp [ei]
          rw [Nat.mul_one] at h1
          omega
        rw [e, hF _ _ (by omega) (by omega), hG _ _ (by omega) (by omega), hb k (by omega), ih (by omega) _ hy]
  intro x hx
  exact key 8 (by omega) x hx
theorem p2 (i : Nat) (h : i < 8) : 2 ^ i < 256 := Nat.pow_lt_pow_right (a := 2) (n := 8) (by omega) h
theorem comm_base : ∀ i j : Fin 8, mul (2 ^ (i : Nat)) (2 ^ (j : Nat)) = mul (2 ^ (j : Nat)) (2 ^ (i : Nat)) := by decide +kernel
theorem assoc_base : ∀ i j k : Fin 8, mul (mul (2 ^ (i : Nat)) (2 ^ (j : Nat))) (2 ^ (k : Nat)) = mul (2 ^ (i : Nat)) (mul (2 ^ (j : Nat)) (2 ^ (k : Nat))) := by decide +kernel
theorem mul_comm8 (a b : Nat) (ha : a < 256) (hb : b < 256) : mul a b = mul b a := by
  refine ext8 (fun b => mul a b) (fun b => mul b a) (fun x y hx hy => mul_right a x y hx hy) (fun x y hx hy => mul_left x y a hx hy ha) (fun i hi => ?_) b hb
  exact ext8 (fun a => mul a (2 ^ i)) (fun a => mul (2 ^ i) a) (fun x y hx hy => mul_left x y _ hx hy (p2 i hi)) (fun x y hx hy => mul_right _ x y hx hy) (fun j hj => comm_base ⟨j, hj⟩ ⟨i, hi⟩) a ha
theorem mul_assoc8 (a b c : Nat) (ha : a < 256) (hb : b < 256) (hc : c < 256) : mul (mul a b) c = mul a (mul b c) := by
  refine ext8 (fun c => mul (mul a b) c) (fun c => mul a (mul b c)) (fun x y hx hy => mul_right _ x y hx hy) (fun x y hx hy => by rw [mul_right b x y hx hy, mul_right a _ _ (mul_lt b x hb) (mul_lt b y hb)]) (fun k hk => ?_) c hc
  have h1 := p2 k hk
  refine ext8 (fun b => mul (mul a b) (2 ^ k)) (fun b => mul a (mul b (2 ^ k))) (fun x y hx hy => by rw [mul_right a x y hx hy, mul_left _ _ _ (mul_lt a x ha) (mul_lt a y ha) h1]) (fun x y hx hy => by rw [mul_left x y _ hx hy h1, mul_right a _ _ (mul_lt x _ hx) (mul_lt y _ hy)]) (fun j hj => ?_) b hb
  have h2 := p2 j hj
  exact ext8 (fun a => mul (mul a (2 ^ j)) (2 ^ k)) (fun a => mul a (mul (2 ^ j) (2 ^ k))) (fun x y hx hy => by rw [mul_left x y _ hx hy h2, mul_left _ _ _ (mul_lt x _ hx) (mul_lt y _ hy) h1]) (fun x y hx hy => by rw [mul_left x y _ hx hy (mul_lt _ _ h2)]) (fun i hi => assoc_base ⟨i, hi⟩ ⟨j, hj⟩ ⟨k, hk⟩) a ha
theorem inv_all : ∀ x : Fin 256, (mul x (inv x) == 1) = (mul x 1 != 0) := by decide +kernel
end Go.Proofs.Ytldlhdohkghikaa
