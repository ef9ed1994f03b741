/-
  Contracts: a byte doubled, and products, of both sides.
-/
import Derived.Test.YtkpodgeinanceaaGfp
namespace Go.Proofs.Ytkpodgeinanceaa
open Go.ChangeShapes Go.WideShapes Go.ChangeAt Go.RowKit
set_option linter.unusedVariables false

theorem high_all : ∀ x : Fin 256, (bits .and .u8 ((x : Nat) : Int) 128 != 0) = decide (128 ≤ (x : Nat)) := by decide +kernel
theorem low_all : ∀ x : Fin 256, (bits .and .u8 ((x : Nat) : Int) 1 == 1) = decide ((x : Nat) % 2 = 1) := by decide +kernel
theorem high_yes (x : Nat) (h : x < 256) (h1 : 128 ≤ x) : (bits .and .u8 (x : Int) 128 != 0) = true := by rw [high_all ⟨x, h⟩]; exact decide_eq_true h1
theorem high_no (x : Nat) (h1 : ¬ 128 ≤ x) : (bits .and .u8 (x : Int) 128 != 0) = false := by rw [high_all ⟨x, by omega⟩]; exact decide_eq_false h1
theorem low_yes (x : Nat) (h : x < 256) (h1 : x % 2 = 1) : (bits .and .u8 (x : Int) 1 == 1) = true := by rw [low_all ⟨x, h⟩]; exact decide_eq_true h1
theorem low_no (x : Nat) (h : x < 256) (h1 : ¬ x % 2 = 1) : (bits .and .u8 (x : Int) 1 == 1) = false := by rw [low_all ⟨x, h⟩]; exact decide_eq_false h1
theorem dbl_hi (x : Nat) (h : x < 256) (h1 : 128 ≤ x) : bits .xor .u8 ((x : Int) * 2 % 256) 27 = (dbl x : Nat) := by
  have e : (x : Int) * 2 % 256 = ((x * 2 - 256 : Nat) : Int) := by omega
  rw [e]
  refine (u8_xor_nat (x * 2 - 256) 27 (by omega) (by omega)).trans ?_
  unfold dbl
  rw [if_neg (by omega)]
theorem dbl_lo (x : Nat) (h1 : ¬ 128 ≤ x) : (x : Int) * 2 = (dbl x : Nat) := by
  unfold dbl
  rw [if_pos (by omega)]
  omega

theorem implDouble (a : Nat) (ha : a < 256) (w : World) :
    Calls Try.prog 88 #[.int .u8 a] w fun e w' => e = .returned (.int .u8 (dbl a)) ∧ w' = w := by
  by_cases h : 128 ≤ a
  · have h1 := high_yes a ha h
    go_enter Try.func88, Try.ntmps88
    go_wp2
    go_ret
    exact ⟨by rw [dbl_hi a ha h]; rfl, rfl⟩
  · have h1 := high_no a h
    go_enter Try.func88, Try.ntmps88
    go_wp2
    go_ret
    exact ⟨by rw [dbl_lo a h]; rfl, rfl⟩

theorem mg_end (k a o : Nat) : mg k a 0 o = o := by cases k <;> simp [mg]
theorem mg_odd (k a b o : Nat) (h : b % 2 = 1) : mg (k + 1) a b o = mg k (dbl a) (b / 2) (o ^^^ a) := by
  rw [mg, if_neg (by omega), if_pos h]
theorem mg_even (k a b o : Nat) (h0 : b ≠ 0) (h : ¬ b % 2 = 1) : mg (k + 1) a b o = mg k (dbl a) (b / 2) o := by
  rw [mg, if_neg h0, if_neg h]
theorem half_lt (k b : Nat) (h : b < 2 ^ (k + 1)) : b / 2 < 2 ^ k := by rw [Nat.pow_succ] at h; omega
theorem some_k (k b : Nat) (h0 : b ≠ 0) (h : b < 2 ^ k) : ∃ j, k = j + 1 := by
  cases k with
  | zero => simp at h; omega
  | succ j => exact ⟨j, rfl⟩
theorem xorI (a b : Nat) (ha : a < 256) (hb : b < 256) : bits .xor .u8 (a : Int) (b : Int) = ((a ^^^ b : Nat) : Int) := u8_xor_nat a b ha hb
theorem halfI (b : Nat) : (b : Int) / 2 = ((b / 2 : Nat) : Int) := by omega

set_option maxHeartbeats 1000000 in
theorem specMul (a b : Nat) (ha : a < 256) (hb : b < 256) (w : World) :
    Calls Try.prog 73 #[.int .u8 a, .int .u8 b] w fun e w' => e = .returned (.int .u8 (mul a b)) ∧ w' = w := by
  go_enter Try.func73, Try.ntmps73
  go_wp2_with fail
  go_loop [0, 1, 5] (fun av bv ov => ∃ k x y o : Nat, av = .int .u8 x ∧ bv = .int .u8 y ∧ ov = .int .u8 o ∧ x < 256 ∧ y < 256 ∧ o < 256 ∧ y < 2 ^ k ∧ Hid (mg k x y o = mul a b)) (fun _ bv _ => (intOf bv).toNat)
  case atStart => exact ⟨8, a, b, 0, rfl, rfl, rfl, ha, hb, by omega, hb, rfl⟩
  case round =>
    obtain ⟨k, x, y, o, rfl, rfl, rfl, hx, hy, ho, hk, hm⟩ := hrel
    by_cases h0 : y = 0
    · subst h0
      clear hk
      go_wp2
      go_ret
      have := hm.out
      rw [mg_end] at this
      exact ⟨by rw [this]; rfl, rfl⟩
    · obtain ⟨j, rfl⟩ := some_k k y h0 hk
      have hj := half_lt j y hk
      have HJ := hide hj
      clear hk hj
      by_cases h1 : y % 2 = 1
      · have e1 := low_yes y hy h1
        have hm2 := hm.out
        rw [mg_odd _ _ _ _ h1] at hm2
        have HM := hide hm2
        clear hm2 hm
        have HO := hide (xorI o x ho hx)
        by_cases h2 : 128 ≤ x
        · have e2 := high_yes x hx h2
          go_wp2
          exact ⟨⟨j, dbl x, y / 2, o ^^^ x, by rw [dbl_hi x hx h2], by rw [halfI], by rw [unhide HO], dbl_lt x hx, by omega, xor_lt _ _ ho hx, unhide HJ, HM⟩, by simp [intOf]; omega⟩
        · have e2 := high_no x h2
          go_wp2
          exact ⟨⟨j, dbl x, y / 2, o ^^^ x, by rw [dbl_lo x h2], by rw [halfI], by rw [unhide HO], dbl_lt x hx, by omega, xor_lt _ _ ho hx, unhide HJ, HM⟩, by simp [intOf]; omega⟩
      · have e1 := low_no y hy h1
        have hm2 := hm.out
        rw [mg_even _ _ _ _ h0 h1] at hm2
        have HM := hide hm2
        clear hm2 hm
        by_cases h2 : 128 ≤ x
        · have e2 := high_yes x hx h2
          go_wp2
          exact ⟨⟨j, dbl x, y / 2, o, by rw [dbl_hi x hx h2], by rw [halfI], rfl, dbl_lt x hx, by omega, ho, unhide HJ, HM⟩, by simp [intOf]; omega⟩
        · have e2 := high_no x h2
          go_wp2
          exact ⟨⟨j, dbl x, y / 2, o, by rw [dbl_lo x h2], by rw [halfI], rfl, dbl_lt x hx, by omega, ho, unhide HJ, HM⟩, by simp [intOf]; omega⟩

end Go.Proofs.Ytkpodgeinanceaa
