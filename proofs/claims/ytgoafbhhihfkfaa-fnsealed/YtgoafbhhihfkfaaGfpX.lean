/-
  The field of 256 on natural numbers: doubling, products, inverses, turns, and what tables say of them. Contracts: a byte doubled, and products, of both sides. Contracts: inverses, turns, SubByte and UnsubByte of both sides. Products of the field of 256: order, brackets, xor.
-/
import Derived.Test.YtgoafbhhihfkfaaBase
namespace Go.Proofs.Ytgoafbhhihfkfaa
open Go.ChangeShapes Go.WideShapes Go.ChangeAt Go.RowKit
set_option linter.unusedVariables false

def dbl (a : Nat) : Nat := if a < 128 then a * 2 else (a * 2 - 256) ^^^ 27
def mg : Nat → Nat → Nat → Nat → Nat
  | 0, _, _, o => o
  | k + 1, a, b, o => if b = 0 then o else mg k (dbl a) (b / 2) (if b % 2 = 1 then o ^^^ a else o)
def mul (a b : Nat) : Nat := mg 8 a b 0
/-- k rounds: squared, and put to the power -/
def ivs : Nat → Nat → Nat → Nat
  | 0, _, p => p
  | k + 1, a, p => ivs k (mul a a) (mul p (mul a a))
def inv (a : Nat) : Nat := ivs 7 a 1
def rol (n k : Nat) : Nat := (n * 2 ^ k) % 256 ||| n / 2 ^ (8 - k)
def spr (c : Nat) : Nat := c ^^^ rol c 1 ^^^ rol c 2 ^^^ rol c 3 ^^^ rol c 4 ^^^ 99
def uns (b : Nat) : Nat := rol b 1 ^^^ rol b 3 ^^^ rol b 6 ^^^ 5
def sub (b : Nat) : Nat := spr (inv b)
def back (b : Nat) : Nat := inv (uns b)

theorem xor_lt (a b : Nat) (ha : a < 256) (hb : b < 256) : a ^^^ b < 256 := Nat.xor_lt_two_pow (n := 8) ha hb
theorem or_lt (a b : Nat) (ha : a < 256) (hb : b < 256) : a ||| b < 256 := Nat.or_lt_two_pow (n := 8) ha hb
theorem dbl_lt (a : Nat) (ha : a < 256) : dbl a < 256 := by
  unfold dbl; split
  · omega
  · exact xor_lt _ _ (by omega) (by omega)
theorem mg_lt : ∀ (k a b o : Nat), a < 256 → o < 256 → mg k a b o < 256
  | 0, a, b, o, _, ho => ho
  | k + 1, a, b, o, ha, ho => by
    unfold mg; split
    · exact ho
    · refine mg_lt k _ _ _ (dbl_lt a ha) ?_
      split
      · exact xor_lt _ _ ho ha
      · exact ho
theorem mul_lt (a b : Nat) (ha : a < 256) : mul a b < 256 := mg_lt 8 a b 0 ha (by omega)
theorem ivs_lt : ∀ (k a p : Nat), a < 256 → p < 256 → ivs k a p < 256
  | 0, a, p, _, hp => hp
  | k + 1, a, p, ha, hp => ivs_lt k _ _ (mul_lt _ _ ha) (mul_lt _ _ hp)
theorem inv_lt (a : Nat) (ha : a < 256) : inv a < 256 := ivs_lt 7 a 1 ha (by omega)
theorem rol_lt (a k : Nat) (ha : a < 256) : rol a k < 256 := or_lt _ _ (Nat.mod_lt _ (by omega)) (Nat.lt_of_le_of_lt (Nat.div_le_self _ _) ha)
theorem spr_lt (a : Nat) (ha : a < 256) : spr a < 256 := by
  unfold spr
  repeat (first | assumption | apply xor_lt | apply rol_lt | omega)
theorem uns_lt (a : Nat) (ha : a < 256) : uns a < 256 := by
  unfold uns
  repeat (first | assumption | apply xor_lt | apply rol_lt | omega)
theorem sub_lt (a : Nat) (ha : a < 256) : sub a < 256 := spr_lt _ (inv_lt _ ha)
theorem back_lt (a : Nat) (ha : a < 256) : back a < 256 := inv_lt _ (uns_lt _ ha)

theorem mul2_all : ∀ x : Fin 256, mul 2 x = dbl x := by decide +kernel
theorem mul3_all : ∀ x : Fin 256, mul 3 x = dbl x ^^^ x := by decide +kernel
theorem mul1_all : ∀ x : Fin 256, mul 1 x = x := by decide +kernel
theorem mulx2_all : ∀ x : Fin 256, mul x 2 = dbl x := by decide +kernel
theorem uns_all : ∀ x : Fin 256, rol (x ^^^ 99) 1 ^^^ rol (x ^^^ 99) 3 ^^^ rol (x ^^^ 99) 6 = uns x := by decide +kernel
theorem mul2 (x : Nat) (h : x < 256) : mul 2 x = dbl x := mul2_all ⟨x, h⟩
theorem mul3 (x : Nat) (h : x < 256) : mul 3 x = dbl x ^^^ x := mul3_all ⟨x, h⟩
theorem mul1 (x : Nat) (h : x < 256) : mul 1 x = x := mul1_all ⟨x, h⟩
theorem mulx2 (x : Nat) (h : x < 256) : mul x 2 = dbl x := mulx2_all ⟨x, h⟩
theorem uns_eq (x : Nat) (h : x < 256) : rol (x ^^^ 99) 1 ^^^ rol (x ^^^ 99) 3 ^^^ rol (x ^^^ 99) 6 = uns x := uns_all ⟨x, h⟩
theorem wrap_u8 (n : Int) : IntKind.u8.wrap n = n % 256 := by simp [IntKind.wrap, IntKind.signed, IntKind.bits]
end Go.Proofs.Ytgoafbhhihfkfaa
namespace Go.Proofs.Ytgoafbhhihfkfaa
open Go.ChangeShapes Go.WideShapes Go.ChangeAt Go.RowKit
set_option linter.unusedVariables false

theorem high_all : ∀ x : Fin 256, (bits .and .u8 ((x : Nat) : Int) 128 != 0) = decide (128 ≤ (x : Nat)) := by decide +kernel
theorem low_all : ∀ x : Fin 256, (bits .and .u8 ((x : Nat) : Int) 1 == 1) = decide ((x : Nat) % 2 = 1) := by decide +kernel
theorem high_yes (x : Nat) (h : x < 256) (h1 : 128 ≤ x) : (bits .and .u8 (x : Int) 128 != 0) = true := by rw [high_all ⟨x, h⟩]; exact decide_eq_true h1
theorem high_no (x : Nat) (h1 : ¬ 128 ≤ x) : (bits .and .u8 (x : Int) 128 != 0) = false := by rw [high_all ⟨x, by omega⟩]; exact decide_eq_false h1
theorem low_yes (x : Nat) (h : x < 256) (h1 : x % 2 = 1) : (bits .and .u8 (x : Int) 1 == 1) = true := by rw [low_all ⟨x, h⟩]; exact decide_eq_true h1
theorem low_no (x : Nat) (h : x < 256) (h1 : ¬ x % 2 = 1) : (bits .and .u8 (x : Int) 1 == 1) = false := by rw [low_all ⟨x, h⟩]; exact decide_eq_false h1
theorem dbl_hi (x : Nat) (h : x < 256) (h1 : 128 ≤ x) : bits .xor .u8 ((x : Int) * 2 % 256) 27 = (dbl x : Nat) := by
  have e : (x : Int) * 2 % 256 = ((x * 2 - 256 : Nat) : Int) := by omega
  rw [e]
  refine (u8_xor_nat (x * 2 - 256) 27 (by omega) (by omega)).trans ?_
  unfold dbl
  rw [if_neg (by omega)]
theorem dbl_lo (x : Nat) (h1 : ¬ 128 ≤ x) : (x : Int) * 2 = (dbl x : Nat) := by
  unfold dbl
  rw [if_pos (by omega)]
  omega

theorem implDouble (a : Nat) (ha : a < 256) (w : World) :
    Calls Try.prog 67 #[.int .u8 a] w fun e w' => e = .returned (.int .u8 (dbl a)) ∧ w' = w := by
  by_cases h : 128 ≤ a
  · have h1 := high_yes a ha h
    go_enter Try.func67, Try.ntmps67
    go_wp2
    go_ret
    exact ⟨by rw [dbl_hi a ha h]; rfl, rfl⟩
  · have h1 := high_no a h
    go_enter Try.func67, Try.ntmps67
    go_wp2
    go_ret
    exact ⟨by rw [dbl_lo a h]; rfl, rfl⟩

theorem mg_end (k a o : Nat) : mg k a 0 o = o := by cases k <;> simp [mg]
theorem mg_odd (k a b o : Nat) (h : b % 2 = 1) : mg (k + 1) a b o = mg k (dbl a) (b / 2) (o ^^^ a) := by
  rw [mg, if_neg (by omega), if_pos h]
theorem mg_even (k a b o : Nat) (h0 : b ≠ 0) (h : ¬ b % 2 = 1) : mg (k + 1) a b o = mg k (dbl a) (b / 2) o := by
  rw [mg, if_neg h0, if_neg h]
theorem half_lt (k b : Nat) (h : b < 2 ^ (k + 1)) : b / 2 < 2 ^ k := by rw [Nat.pow_succ] at h; omega
theorem some_k (k b : Nat) (h0 : b ≠ 0) (h : b < 2 ^ k) : ∃ j, k = j + 1 := by
  cases k with
  | zero => simp at h; omega
  | succ j => exact ⟨j, rfl⟩
theorem xorI (a b : Nat) (ha : a < 256) (hb : b < 256) : bits .xor .u8 (a : Int) (b : Int) = ((a ^^^ b : Nat) : Int) := u8_xor_nat a b ha hb
theorem halfI (b : Nat) : (b : Int) / 2 = ((b / 2 : Nat) : Int) := by omega

set_option maxHeartbeats 1000000 in
theorem specMul (a b : Nat) (ha : a < 256) (hb : b < 256) (w : World) :
    Calls Try.prog 72 #[.int .u8 a, .int .u8 b] w fun e w' => e = .returned (.int .u8 (mul a b)) ∧ w' = w := by
  go_enter Try.func72, Try.ntmps72
  go_wp2_with fail
  go_loop [0, 1, 5] (fun av bv ov => ∃ k x y o : Nat, av = .int .u8 x ∧ bv = .int .u8 y ∧ ov = .int .u8 o ∧ x < 256 ∧ y < 256 ∧ o < 256 ∧ y < 2 ^ k ∧ Hid (mg k x y o = mul a b)) (fun _ bv _ => (intOf bv).toNat)
  case atStart => exact ⟨8, a, b, 0, rfl, rfl, rfl, ha, hb, by omega, hb, rfl⟩
  case round =>
    obtain ⟨k, x, y, o, rfl, rfl, rfl, hx, hy, ho, hk, hm⟩ := hrel
    by_cases h0 : y = 0
    · subst h0
      clear hk
      go_wp2
      go_ret
      have := hm.out
      rw [mg_end] at this
      exact ⟨by rw [this]; rfl, rfl⟩
    · obtain ⟨j, rfl⟩ := some_k k y h0 hk
      have hj := half_lt j y hk
      have HJ := hide hj
      clear hk hj
      by_cases h1 : y % 2 = 1
      · have e1 := low_yes y hy h1
        have hm2 := hm.out
        rw [mg_odd _ _ _ _ h1] at hm2
        have HM := hide hm2
        clear hm2 hm
        have HO := hide (xorI o x ho hx)
        by_cases h2 : 128 ≤ x
        · have e2 := high_yes x hx h2
          go_wp2
          exact ⟨⟨j, dbl x, y / 2, o ^^^ x, by rw [dbl_hi x hx h2], by rw [halfI], by rw [unhide HO], dbl_lt x hx, by omega, xor_lt _ _ ho hx, unhide HJ, HM⟩, by simp [intOf]; omega⟩
        · have e2 := high_no x h2
          go_wp2
          exact ⟨⟨j, dbl x, y / 2, o ^^^ x, by rw [dbl_lo x h2], by rw [halfI], by rw [unhide HO], dbl_lt x hx, by omega, xor_lt _ _ ho hx, unhide HJ, HM⟩, by simp [intOf]; omega⟩
      · have e1 := low_no y hy h1
        have hm2 := hm.out
        rw [mg_even _ _ _ _ h0 h1] at hm2
        have HM := hide hm2
        clear hm2 hm
        by_cases h2 : 128 ≤ x
        · have e2 := high_yes x hx h2
          go_wp2
          exact ⟨⟨j, dbl x, y / 2, o, by rw [dbl_hi x hx h2], by rw [halfI], rfl, dbl_lt x hx, by omega, ho, unhide HJ, HM⟩, by simp [intOf]; omega⟩
        · have e2 := high_no x h2
          go_wp2
          exact ⟨⟨j, dbl x, y / 2, o, by rw [dbl_lo x h2], by rw [halfI], rfl, dbl_lt x hx, by omega, ho, unhide HJ, HM⟩, by simp [intOf]; omega⟩

end Go.Proofs.Ytgoafbhhihfkfaa
namespace Go.Proofs.Ytgoafbhhihfkfaa
open Go.ChangeShapes Go.WideShapes Go.ChangeAt Go.RowKit
set_option linter.unusedVariables false

theorem ivs_step (k x p : Nat) (h : k < 7) : ivs (7 - k) x p = ivs (7 - (k + 1)) (mul x x) (mul p (mul x x)) := by
  have e : 7 - k = (7 - (k + 1)) + 1 := by omega
  rw [e, ivs]

theorem odd_n : ∀ j : Fin 7, ∃ n : Fin 128, 254 / 2 ^ ((j : Nat) + 1) = (n : Nat) ∧ 0 < (n : Nat) ∧ (n : Nat) / 2 = 254 / 2 ^ ((j : Nat) + 2) ∧ (bits .and .i64 ((n : Nat) : Int) 1 == 1) = true := by decide +kernel
theorem ivs_one (j x p : Nat) (h : j < 7) : ivs (7 - j) x p = ivs (7 - (j + 1)) (mul x x) (mul p (mul x x)) := ivs_step j x p h

set_option maxHeartbeats 1000000 in
theorem specInv (a : Nat) (ha : a < 256) (w : World) :
    Calls Try.prog 78 #[.int .u8 a] w fun e w' => e = .returned (.int .u8 (inv a)) ∧ w' = w := by
  go_enter Try.func78, Try.ntmps78
  go_wp2_with fail
  go_loop [0, 3, 4] (fun av pv iv => (av = .int .u8 a ∧ pv = .int .u8 (1 : Nat) ∧ iv = .int .i64 (254 : Nat)) ∨
      ∃ j n y p : Nat, av = .int .u8 (mul y y) ∧ pv = .int .u8 p ∧ iv = .int .i64 n ∧ n < 128 ∧ y < 256 ∧ p < 256 ∧ j ≤ 7 ∧ Hid (n = 254 / 2 ^ (j + 1)) ∧ Hid (ivs (7 - j) y p = inv a)) (fun _ _ iv => (intOf iv).toNat)
  case atStart => exact Or.inl ⟨rfl, rfl, rfl⟩
  case round =>
    rcases hrel with ⟨rfl, rfl, rfl⟩ | ⟨j, n, y, p, rfl, rfl, rfl, hn, hy, hp, hj, hn2, hm⟩
    · have ev : (bits .and .i64 ((254 : Nat) : Int) 1 == 1) = false := by decide
      go_wp2_with (go_at_call 72; with_reducible refine (specMul a a ha ha _).mono ?_; rintro e w1 ⟨rfl, rfl⟩)
      exact ⟨Or.inr ⟨0, 127, a, 1, rfl, rfl, by go_num, by omega, ha, by omega, by omega, rfl, rfl⟩, by simp [intOf]⟩
    · have hl := mul_lt y y hy
      by_cases h0 : j < 7
      · obtain ⟨N, e1, e2, e3, e4⟩ := odd_n ⟨j, h0⟩
        have en : (N : Nat) = n := by rw [hn2.out]; exact e1.symm
        rw [en] at e2 e3 e4
        have HN := hide e3
        clear e3 e1 hn2
        have hm2 := hm.out
        rw [ivs_one j y p h0] at hm2
        have HM := hide hm2
        clear hm2 hm
        generalize mul y y = x at HM hl
        go_wp2_with (first | (go_at_call 72; with_reducible refine (specMul p x hp hl _).mono ?_; rintro e w1 ⟨rfl, rfl⟩) | (go_at_call 72; with_reducible refine (specMul x x hl hl _).mono ?_; rintro e w1 ⟨rfl, rfl⟩))
        exact ⟨Or.inr ⟨j + 1, n / 2, x, mul p x, rfl, rfl, by rw [halfI], by omega, hl, mul_lt _ _ hp, by omega, unhide HN, HM⟩, by simp [intOf]; omega⟩
      · have e : j = 7 := by omega
        subst e
        have e0 : n = 0 := by rw [hn2.out]
        subst e0
        clear hn2
        go_wp2
        go_ret
        have := hm.out
        rw [show 7 - 7 = 0 from rfl, ivs] at this
        exact ⟨by rw [this]; rfl, rfl⟩

theorem seven : ∀ k : Fin 8, bits .and .u64 ((k : Nat) : Int) 7 = (k : Nat) := by decide +kernel
theorem rolI (a k : Nat) (ha : a < 256) (hk : k < 8) : bits .or .u8 ((a : Int) * 2 ^ k % 256) ((a : Int) / 2 ^ (8 - k)) = (rol a k : Nat) := by
  have e : (a : Int) * 2 ^ k % 256 = ((a * 2 ^ k % 256 : Nat) : Int) := by simp
  have e2 : (a : Int) / 2 ^ (8 - k) = ((a / 2 ^ (8 - k) : Nat) : Int) := by simp
  rw [e, e2]
  exact u8_or_nat _ _ (Nat.mod_lt _ (by omega)) (Nat.lt_of_le_of_lt (Nat.div_le_self _ _) ha)

theorem rotl (a k : Nat) (ha : a < 256) (hk : k < 8) (w : World) :
    Calls Try.prog 80 #[.int .u8 a, .int .i64 k] w fun e w' => e = .returned (.int .u8 (rol a k)) ∧ w' = w := by
  have h7 : bits .and .u64 (k : Int) 7 = (k : Int) := seven ⟨k, hk⟩
  go_enter Try.func80, Try.ntmps80
  go_wp2_with fail
  go_ret
  exact ⟨by rw [← rolI a k ha hk]; rfl, rfl⟩
theorem turnl (a k : Nat) (ha : a < 256) (hk : k < 8) (w : World) :
    Calls Try.prog 79 #[.int .u8 a, .int .u64 k] w fun e w' => e = .returned (.int .u8 (rol a k)) ∧ w' = w := by
  go_enter Try.func79, Try.ntmps79
  go_wp2_with fail
  go_ret
  exact ⟨by rw [← rolI a k ha hk]; rfl, rfl⟩
theorem xor99 (a : Nat) (ha : a < 256) : bits .xor .u8 (a : Int) 99 = ((a ^^^ 99 : Nat) : Int) := u8_xor_nat a 99 ha (by omega)
theorem xor5 (a : Nat) (ha : a < 256) : bits .xor .u8 (a : Int) 5 = ((a ^^^ 5 : Nat) : Int) := u8_xor_nat a 5 ha (by omega)
theorem sprI (a r1 r2 r3 r4 : Nat) (ha : a < 256) (h1 : r1 < 256) (h2 : r2 < 256) (h3 : r3 < 256) (h4 : r4 < 256) :
    bits .xor .u8 (bits .xor .u8 (a : Int) (bits .xor .u8 (bits .xor .u8 (bits .xor .u8 r1 r2) r3) r4)) 99 = ((a ^^^ (r1 ^^^ r2 ^^^ r3 ^^^ r4) ^^^ 99 : Nat) : Int) := by
  have k2 := xor_lt _ _ h1 h2
  have k3 := xor_lt _ _ k2 h3
  have k4 := xor_lt _ _ k3 h4
  rw [xorI r1 r2 h1 h2, xorI _ r3 k2 h3, xorI _ r4 k3 h4, xorI a _ ha k4, xor99 _ (xor_lt _ _ ha k4)]
theorem sprS (a r1 r2 r3 r4 : Nat) (ha : a < 256) (h1 : r1 < 256) (h2 : r2 < 256) (h3 : r3 < 256) (h4 : r4 < 256) :
    bits .xor .u8 (bits .xor .u8 (bits .xor .u8 (bits .xor .u8 (bits .xor .u8 (a : Int) r1) r2) r3) r4) 99 = ((a ^^^ r1 ^^^ r2 ^^^ r3 ^^^ r4 ^^^ 99 : Nat) : Int) := by
  have k1 := xor_lt _ _ ha h1
  have k2 := xor_lt _ _ k1 h2
  have k3 := xor_lt _ _ k2 h3
  have k4 := xor_lt _ _ k3 h4
  rw [xorI a r1 ha h1, xorI _ r2 k1 h2, xorI _ r3 k2 h3, xorI _ r4 k3 h4, xor99 _ k4]
theorem unsI (r1 r3 r6 : Nat) (h1 : r1 < 256) (h3 : r3 < 256) (h6 : r6 < 256) :
    bits .xor .u8 (bits .xor .u8 (bits .xor .u8 (r1 : Int) r3) r6) 5 = ((r1 ^^^ r3 ^^^ r6 ^^^ 5 : Nat) : Int) := by
  have k3 := xor_lt _ _ h1 h3
  have k6 := xor_lt _ _ k3 h6
  rw [xorI r1 r3 h1 h3, xorI _ r6 k3 h6, xor5 _ k6]
theorem unsS (r1 r3 r6 : Nat) (h1 : r1 < 256) (h3 : r3 < 256) (h6 : r6 < 256) :
    bits .xor .u8 (bits .xor .u8 (r1 : Int) r3) r6 = ((r1 ^^^ r3 ^^^ r6 : Nat) : Int) := by
  have k3 := xor_lt _ _ h1 h3
  rw [xorI r1 r3 h1 h3, xorI _ r6 k3 h6]

set_option maxHeartbeats 1000000 in
theorem implSpr (a : Nat) (ha : a < 256) (w : World) :
    Calls Try.prog 76 #[.int .u8 a] w fun e w' => e = .returned (.int .u8 (spr a)) ∧ w' = w := by
  have h1 : Hid (∀ W, Calls Try.prog 80 #[.int .u8 a, .int .i64 1] W fun e w' => e = .returned (.int .u8 (rol a 1)) ∧ w' = W) := fun W => rotl a 1 ha (by omega) W
  have h2 : Hid (∀ W, Calls Try.prog 80 #[.int .u8 a, .int .i64 2] W fun e w' => e = .returned (.int .u8 (rol a 2)) ∧ w' = W) := fun W => rotl a 2 ha (by omega) W
  have h3 : Hid (∀ W, Calls Try.prog 80 #[.int .u8 a, .int .i64 3] W fun e w' => e = .returned (.int .u8 (rol a 3)) ∧ w' = W) := fun W => rotl a 3 ha (by omega) W
  have h4 : Hid (∀ W, Calls Try.prog 80 #[.int .u8 a, .int .i64 4] W fun e w' => e = .returned (.int .u8 (rol a 4)) ∧ w' = W) := fun W => rotl a 4 ha (by omega) W
  have b1 := rol_lt a 1 ha
  have b2 := rol_lt a 2 ha
  have b3 := rol_lt a 3 ha
  have b4 := rol_lt a 4 ha
  have e0 := hide (show spr a = a ^^^ (rol a 1 ^^^ rol a 2 ^^^ rol a 3 ^^^ rol a 4) ^^^ 99 by unfold spr; simp only [Nat.xor_assoc])
  generalize spr a = r at *
  generalize rol a 1 = r1 at *
  generalize rol a 2 = r2 at *
  generalize rol a 3 = r3 at *
  generalize rol a 4 = r4 at *
  go_enter Try.func76, Try.ntmps76
  go_wp2_with (first
    | (go_at_call 80; with_reducible refine (unhide h1 _).mono ?_; rintro e w1 ⟨rfl, rfl⟩)
    | (go_at_call 80; with_reducible refine (unhide h2 _).mono ?_; rintro e w1 ⟨rfl, rfl⟩)
    | (go_at_call 80; with_reducible refine (unhide h3 _).mono ?_; rintro e w1 ⟨rfl, rfl⟩)
    | (go_at_call 80; with_reducible refine (unhide h4 _).mono ?_; rintro e w1 ⟨rfl, rfl⟩))
  go_ret
  exact ⟨by rw [unhide e0, ← sprI a r1 r2 r3 r4 ha b1 b2 b3 b4]; rfl, rfl⟩
set_option maxHeartbeats 1000000 in
theorem specSub (n : Nat) (hn : n < 256) (w : World) :
    Calls Try.prog 71 #[.int .u8 n] w fun e w' => e = .returned (.int .u8 (sub n)) ∧ w' = w := by
  have hI := hide (fun W => specInv n hn W)
  have ha := inv_lt n hn
  have e1 := hide (show sub n = spr (inv n) from rfl)
  generalize sub n = s at *
  generalize inv n = a at *
  have h1 : Hid (∀ W, Calls Try.prog 79 #[.int .u8 a, .int .u64 1] W fun e w' => e = .returned (.int .u8 (rol a 1)) ∧ w' = W) := fun W => turnl a 1 ha (by omega) W
  have h2 : Hid (∀ W, Calls Try.prog 79 #[.int .u8 a, .int .u64 2] W fun e w' => e = .returned (.int .u8 (rol a 2)) ∧ w' = W) := fun W => turnl a 2 ha (by omega) W
  have h3 : Hid (∀ W, Calls Try.prog 79 #[.int .u8 a, .int .u64 3] W fun e w' => e = .returned (.int .u8 (rol a 3)) ∧ w' = W) := fun W => turnl a 3 ha (by omega) W
  have h4 : Hid (∀ W, Calls Try.prog 79 #[.int .u8 a, .int .u64 4] W fun e w' => e = .returned (.int .u8 (rol a 4)) ∧ w' = W) := fun W => turnl a 4 ha (by omega) W
  have b1 := rol_lt a 1 ha
  have b2 := rol_lt a 2 ha
  have b3 := rol_lt a 3 ha
  have b4 := rol_lt a 4 ha
  have e0 := hide (show spr a = a ^^^ rol a 1 ^^^ rol a 2 ^^^ rol a 3 ^^^ rol a 4 ^^^ 99 from rfl)
  generalize spr a = r at *
  generalize rol a 1 = r1 at *
  generalize rol a 2 = r2 at *
  generalize rol a 3 = r3 at *
  generalize rol a 4 = r4 at *
  go_enter Try.func71, Try.ntmps71
  go_wp2_with (first
    | (go_at_call 79; with_reducible refine (unhide h1 _).mono ?_; rintro e w1 ⟨rfl, rfl⟩)
    | (go_at_call 79; with_reducible refine (unhide h2 _).mono ?_; rintro e w1 ⟨rfl, rfl⟩)
    | (go_at_call 79; with_reducible refine (unhide h3 _).mono ?_; rintro e w1 ⟨rfl, rfl⟩)
    | (go_at_call 79; with_reducible refine (unhide h4 _).mono ?_; rintro e w1 ⟨rfl, rfl⟩)
    | (go_at_call 78; with_reducible refine (unhide hI _).mono ?_; rintro e w1 ⟨rfl, rfl⟩))
  go_ret
  exact ⟨by rw [unhide e1, unhide e0, ← sprS a r1 r2 r3 r4 ha b1 b2 b3 b4]; rfl, rfl⟩
end Go.Proofs.Ytgoafbhhihfkfaa
namespace Go.Proofs.Ytgoafbhhihfkfaa
open Go.ChangeShapes Go.WideShapes Go.ChangeAt Go.RowKit
set_option linter.unusedVariables false

theorem dbl_xor_all : ∀ x y : Fin 256, dbl (x ^^^ y) = dbl x ^^^ dbl y := by decide +kernel
theorem dbl_xor (x y : Nat) (hx : x < 256) (hy : y < 256) : dbl (x ^^^ y) = dbl x ^^^ dbl y := dbl_xor_all ⟨x, hx⟩ ⟨y, hy⟩
theorem xor_left (a b c : Nat) : a ^^^ (b ^^^ c) = b ^^^ (a ^^^ c) := by rw [← Nat.xor_assoc, Nat.xor_comm a b, Nat.xor_assoc]
theorem xor_back (a b : Nat) : a ^^^ (a ^^^ b) = b := by rw [← Nat.xor_assoc, Nat.xor_self, Nat.zero_xor]
/-- a product, bit by bit -/
def sm : Nat → Nat → Nat → Nat
  | 0, _, _ => 0
  | k + 1, a, b => (if b % 2 = 1 then a else 0) ^^^ sm k (dbl a) (b / 2)
theorem sm_lt : ∀ k a b, a < 256 → sm k a b < 256
  | 0, _, _, _ => by simp [sm]
  | k + 1, a, b, h => by
    rw [sm]
    refine xor_lt _ _ ?_ (sm_lt k _ _ (dbl_lt a h))
    split <;> omega
theorem sm_zero : ∀ k a, sm k a 0 = 0
  | 0, _ => rfl
  | k + 1, a => by rw [sm]; simp [sm_zero k]
theorem mg_sm : ∀ k a b o, b < 2 ^ k → mg k a b o = o ^^^ sm k a b
  | 0, a, b, o, h => by
    obtain rfl : b = 0 := by simpa using h
    simp [mg, sm]
  | k + 1, a, b, o, h => by
    have h2 : b / 2 < 2 ^ k := by rw [Nat.pow_succ] at h; omega
    rw [sm]
    by_cases h0 : b = 0
    · subst h0
      simp [mg, sm_zero]
    · by_cases ho : b % 2 = 1
      · rw [show mg (k + 1) a b o = mg k (dbl a) (b / 2) (o ^^^ a) by simp [mg, h0, ho], mg_sm k _ _ _ h2, if_pos ho, Nat.xor_assoc]
      · rw [show mg (k + 1) a b o = mg k (dbl a) (b / 2) o by simp [mg, h0, ho], mg_sm k _ _ _ h2, if_neg ho, Nat.zero_xor]
theorem mul_sm (a b : Nat) (hb : b < 256) : mul a b = sm 8 a b := by
  have := mg_sm 8 a b 0 (by omega)
  rw [Nat.zero_xor] at this
  exact this
theorem sm_right : ∀ k a b c, sm k a (b ^^^ c) = sm k a b ^^^ sm k a c
  | 0, _, _, _ => by simp [sm]
  | k + 1, a, b, c => by
    rw [sm, sm, sm, Nat.xor_div_two, sm_right k]
    have hb : b % 2 = 0 ∨ b % 2 = 1 := by omega
    have hc : c % 2 = 0 ∨ c % 2 = 1 := by omega
    have hx : (b ^^^ c) % 2 = (b % 2 + c % 2) % 2 := by
      have := Nat.xor_mod_two_pow (a := b) (b := c) (n := 1)
      rw [Nat.pow_one] at this
      rw [this]
      rcases hb with e | e <;> rcases hc with f | f <;> rw [e, f] <;> rfl
    rw [hx]
    generalize sm k (dbl a) (b / 2) = p
    generalize sm k (dbl a) (c / 2) = q
    rcases hb with e | e <;> rcases hc with f | f <;> rw [e, f] <;> simp [Nat.xor_comm, xor_left, xor_back]
theorem sm_left : ∀ k a b c, a < 256 → b < 256 → sm k (a ^^^ b) c = sm k a c ^^^ sm k b c
  | 0, _, _, _, _, _ => by simp [sm]
  | k + 1, a, b, c, ha, hb => by
    rw [sm, sm, sm, dbl_xor a b ha hb, sm_left k _ _ _ (dbl_lt a ha) (dbl_lt b hb)]
    generalize sm k (dbl a) (c / 2) = p
    generalize sm k (dbl b) (c / 2) = q
    split <;> simp [Nat.xor_comm, xor_left]
theorem mul_right (a b c : Nat) (hb : b < 256) (hc : c < 256) : mul a (b ^^^ c) = mul a b ^^^ mul a c := by
  rw [mul_sm a _ (xor_lt _ _ hb hc), mul_sm a b hb, mul_sm a c hc, sm_right]
theorem mul_left (a b c : Nat) (ha : a < 256) (hb : b < 256) (hc : c < 256) : mul (a ^^^ b) c = mul a c ^^^ mul b c := by
  rw [mul_sm _ c hc, mul_sm a c hc, mul_sm b c hc, sm_left 8 a b c ha hb]
/-- what goes with xor is told by eight bytes -/
theorem ext8 (F G : Nat → Nat) (hF : ∀ x y, x < 256 → y < 256 → F (x ^^^ y) = F x ^^^ F y) (hG : ∀ x y, x < 256 → y < 256 → G (x ^^^ y) = G x ^^^ G y) (hb : ∀ i, i < 8 → F (2 ^ i) = G (2 ^ i)) : ∀ x, x < 256 → F x = G x := by
  have key : ∀ k, k ≤ 8 → ∀ x, x < 2 ^ k → F x = G x := by
    intro k
    induction k with
    | zero =>
      intro _ x hx
      obtain rfl : x = 0 := by simpa using hx
      have h1 := hF 0 0 (by omega) (by omega)
      have h2 := hG 0 0 (by omega) (by omega)
      simp at h1 h2
      rw [h1, h2]
    | succ k ih =>
      intro hk x hx
      have hp : 2 ^ k ≤ 2 ^ 7 := Nat.pow_le_pow_right (by omega) (by omega)
      by_cases h : x < 2 ^ k
      · exact ih (by omega) x h
      · rw [Nat.pow_succ] at hx
        have hy : x - 2 ^ k < 2 ^ k := by omega
        have e : x = 2 ^ k ^^^ (x - 2 ^ k) := by
          have h1 : 2 ^ k * 1 + (x - 2 ^ k) = 2 ^ k * 1 ^^^ (x - 2 ^ k) := by
            have := Nat.two_pow_add_eq_or_of_lt hy 1
            rw [this]
            apply Nat.eq_of_testBit_eq
            intro i
            rw [Nat.testBit_or, Nat.testBit_xor, Nat.mul_one, Nat.testBit_two_pow]
            by_cases ei : k = i
            · subst ei
              rw [Nat.testBit_lt_two_pow hy]
              simp
            · simp [ei]
          rw [Nat.mul_one] at h1
          omega
        rw [e, hF _ _ (by omega) (by omega), hG _ _ (by omega) (by omega), hb k (by omega), ih (by omega) _ hy]
  intro x hx
  exact key 8 (by omega) x hx
theorem p2 (i : Nat) (h : i < 8) : 2 ^ i < 256 := Nat.pow_lt_pow_right (a := 2) (n := 8) (by omega) h
theorem comm_base : ∀ i j : Fin 8, mul (2 ^ (i : Nat)) (2 ^ (j : Nat)) = mul (2 ^ (j : Nat)) (2 ^ (i : Nat)) := by decide +kernel
theorem assoc_base : ∀ i j k : Fin 8, mul (mul (2 ^ (i : Nat)) (2 ^ (j : Nat))) (2 ^ (k : Nat)) = mul (2 ^ (i : Nat)) (mul (2 ^ (j : Nat)) (2 ^ (k : Nat))) := by decide +kernel
theorem mul_comm8 (a b : Nat) (ha : a < 256) (hb : b < 256) : mul a b = mul b a := by
  refine ext8 (fun b => mul a b) (fun b => mul b a) (fun x y hx hy => mul_right a x y hx hy) (fun x y hx hy => mul_left x y a hx hy ha) (fun i hi => ?_) b hb
  exact ext8 (fun a => mul a (2 ^ i)) (fun a => mul (2 ^ i) a) (fun x y hx hy => mul_left x y _ hx hy (p2 i hi)) (fun x y hx hy => mul_right _ x y hx hy) (fun j hj => comm_base ⟨j, hj⟩ ⟨i, hi⟩) a ha
theorem mul_assoc8 (a b c : Nat) (ha : a < 256) (hb : b < 256) (hc : c < 256) : mul (mul a b) c = mul a (mul b c) := by
  refine ext8 (fun c => mul (mul a b) c) (fun c => mul a (mul b c)) (fun x y hx hy => mul_right _ x y hx hy) (fun x y hx hy => by rw [mul_right b x y hx hy, mul_right a _ _ (mul_lt b x hb) (mul_lt b y hb)]) (fun k hk => ?_) c hc
  have h1 := p2 k hk
  refine ext8 (fun b => mul (mul a b) (2 ^ k)) (fun b => mul a (mul b (2 ^ k))) (fun x y hx hy => by rw [mul_right a x y hx hy, mul_left _ _ _ (mul_lt a x ha) (mul_lt a y ha) h1]) (fun x y hx hy => by rw [mul_left x y _ hx hy h1, mul_right a _ _ (mul_lt x _ hx) (mul_lt y _ hy)]) (fun j hj => ?_) b hb
  have h2 := p2 j hj
  exact ext8 (fun a => mul (mul a (2 ^ j)) (2 ^ k)) (fun a => mul a (mul (2 ^ j) (2 ^ k))) (fun x y hx hy => by rw [mul_left x y _ hx hy h2, mul_left _ _ _ (mul_lt x _ hx) (mul_lt y _ hy) h1]) (fun x y hx hy => by rw [mul_left x y _ hx hy (mul_lt _ _ h2)]) (fun i hi => assoc_base ⟨i, hi⟩ ⟨j, hj⟩ ⟨k, hk⟩) a ha
theorem inv_all : ∀ x : Fin 256, (mul x (inv x) == 1) = (mul x 1 != 0) := by decide +kernel
end Go.Proofs.Ytgoafbhhihfkfaa
