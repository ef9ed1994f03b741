/-
  Contracts: inverses, turns, SubByte and UnsubByte of both sides.
-/
import Derived.Test.YtkpodgeinanceaaGmu
namespace Go.Proofs.Ytkpodgeinanceaa
open Go.ChangeShapes Go.WideShapes Go.ChangeAt Go.RowKit
set_option linter.unusedVariables false

theorem ivs_step (k x p : Nat) (h : k < 7) : ivs (7 - k) x p = ivs (7 - (k + 1)) (mul x x) (mul p (mul x x)) := by
  have e : 7 - k = (7 - (k + 1)) + 1 := by omega
  rw [e, ivs]

theorem odd_n : ∀ j : Fin 7, ∃ n : Fin 128, 254 / 2 ^ ((j : Nat) + 1) = (n : Nat) ∧ 0 < (n : Nat) ∧ (n : Nat) / 2 = 254 / 2 ^ ((j : Nat) + 2) ∧ (bits .and .i64 ((n : Nat) : Int) 1 == 1) = true := by decide +kernel
theorem ivs_one (j x p : Nat) (h : j < 7) : ivs (7 - j) x p = ivs (7 - (j + 1)) (mul x x) (mul p (mul x x)) := ivs_step j x p h

set_option maxHeartbeats 1000000 in
theorem specInv (a : Nat) (ha : a < 256) (w : World) :
    Calls Try.prog 94 #[.int .u8 a] w fun e w' => e = .returned (.int .u8 (inv a)) ∧ w' = w := by
  go_enter Try.func94, Try.ntmps94
  go_wp2_with fail
  go_loop [0, 3, 4] (fun av pv iv => (av = .int .u8 a ∧ pv = .int .u8 (1 : Nat) ∧ iv = .int .i64 (254 : Nat)) ∨
      ∃ j n y p : Nat, av = .int .u8 (mul y y) ∧ pv = .int .u8 p ∧ iv = .int .i64 n ∧ n < 128 ∧ y < 256 ∧ p < 256 ∧ j ≤ 7 ∧ Hid (n = 254 / 2 ^ (j + 1)) ∧ Hid (ivs (7 - j) y p = inv a)) (fun _ _ iv => (intOf iv).toNat)
  case atStart => exact Or.inl ⟨rfl, rfl, rfl⟩
  case round =>
    rcases hrel with ⟨rfl, rfl, rfl⟩ | ⟨j, n, y, p, rfl, rfl, rfl, hn, hy, hp, hj, hn2, hm⟩
    · have ev : (bits .and .i64 ((254 : Nat) : Int) 1 == 1) = false := by decide
      go_wp2_with (go_at_call 73; with_reducible refine (specMul a a ha ha _).mono ?_; rintro e w1 ⟨rfl, rfl⟩)
      exact ⟨Or.inr ⟨0, 127, a, 1, rfl, rfl, by go_num, by omega, ha, by omega, by omega, rfl, rfl⟩, by simp [intOf]⟩
    · have hl := mul_lt y y hy
      by_cases h0 : j < 7
      · obtain ⟨N, e1, e2, e3, e4⟩ := odd_n ⟨j, h0⟩
        have en : (N : Nat) = n := by rw [hn2.out]; exact e1.symm
        rw [en] at e2 e3 e4
        have HN := hide e3
        clear e3 e1 hn2
        have hm2 := hm.out
        rw [ivs_one j y p h0] at hm2
        have HM := hide hm2
        clear hm2 hm
        generalize mul y y = x at HM hl
        go_wp2_with (first | (go_at_call 73; with_reducible refine (specMul p x hp hl _).mono ?_; rintro e w1 ⟨rfl, rfl⟩) | (go_at_call 73; with_reducible refine (specMul x x hl hl _).mono ?_; rintro e w1 ⟨rfl, rfl⟩))
        exact ⟨Or.inr ⟨j + 1, n / 2, x, mul p x, rfl, rfl, by rw [halfI], by omega, hl, mul_lt _ _ hp, by omega, unhide HN, HM⟩, by simp [intOf]; omega⟩
      · have e : j = 7 := by omega
        subst e
        have e0 : n = 0 := by rw [hn2.out]
        subst e0
        clear hn2
        go_wp2
        go_ret
        have := hm.out
        rw [show 7 - 7 = 0 from rfl, ivs] at this
        exact ⟨by rw [this]; rfl, rfl⟩

theorem seven : ∀ k : Fin 8, bits .and .u64 ((k : Nat) : Int) 7 = (k : Nat) := by decide +kernel
theorem rolI (a k : Nat) (ha : a < 256) (hk : k < 8) : bits .or .u8 ((a : Int) * 2 ^ k % 256) ((a : Int) / 2 ^ (8 - k)) = (rol a k : Nat) := by
  have e : (a : Int) * 2 ^ k % 256 = ((a * 2 ^ k % 256 : Nat) : Int) := by simp
  have e2 : (a : Int) / 2 ^ (8 - k) = ((a / 2 ^ (8 - k) : Nat) : Int) := by simp
  rw [e, e2]
  exact u8_or_nat _ _ (Nat.mod_lt _ (by omega)) (Nat.lt_of_le_of_lt (Nat.div_le_self _ _) ha)

theorem rotl (a k : Nat) (ha : a < 256) (hk : k < 8) (w : World) :
    Calls Try.prog 104 #[.int .u8 a, .int .i64 k] w fun e w' => e = .returned (.int .u8 (rol a k)) ∧ w' = w := by
  have h7 : bits .and .u64 (k : Int) 7 = (k : Int) := seven ⟨k, hk⟩
  go_enter Try.func104, Try.ntmps104
  go_wp2_with fail
  go_ret
  exact ⟨by rw [← rolI a k ha hk]; rfl, rfl⟩
theorem turnl (a k : Nat) (ha : a < 256) (hk : k < 8) (w : World) :
    Calls Try.prog 95 #[.int .u8 a, .int .u64 k] w fun e w' => e = .returned (.int .u8 (rol a k)) ∧ w' = w := by
  go_enter Try.func95, Try.ntmps95
  go_wp2_with fail
  go_ret
  exact ⟨by rw [← rolI a k ha hk]; rfl, rfl⟩
theorem xor99 (a : Nat) (ha : a < 256) : bits .xor .u8 (a : Int) 99 = ((a ^^^ 99 : Nat) : Int) := u8_xor_nat a 99 ha (by omega)
theorem xor5 (a : Nat) (ha : a < 256) : bits .xor .u8 (a : Int) 5 = ((a ^^^ 5 : Nat) : Int) := u8_xor_nat a 5 ha (by omega)
theorem sprI (a r1 r2 r3 r4 : Nat) (ha : a < 256) (h1 : r1 < 256) (h2 : r2 < 256) (h3 : r3 < 256) (h4 : r4 < 256) :
    bits .xor .u8 (bits .xor .u8 (a : Int) (bits .xor .u8 (bits .xor .u8 (bits .xor .u8 r1 r2) r3) r4)) 99 = ((a ^^^ (r1 ^^^ r2 ^^^ r3 ^^^ r4) ^^^ 99 : Nat) : Int) := by
  have k2 := xor_lt _ _ h1 h2
  have k3 := xor_lt _ _ k2 h3
  have k4 := xor_lt _ _ k3 h4
  rw [xorI r1 r2 h1 h2, xorI _ r3 k2 h3, xorI _ r4 k3 h4, xorI a _ ha k4, xor99 _ (xor_lt _ _ ha k4)]
theorem sprS (a r1 r2 r3 r4 : Nat) (ha : a < 256) (h1 : r1 < 256) (h2 : r2 < 256) (h3 : r3 < 256) (h4 : r4 < 256) :
    bits .xor .u8 (bits .xor .u8 (bits .xor .u8 (bits .xor .u8 (bits .xor .u8 (a : Int) r1) r2) r3) r4) 99 = ((a ^^^ r1 ^^^ r2 ^^^ r3 ^^^ r4 ^^^ 99 : Nat) : Int) := by
  have k1 := xor_lt _ _ ha h1
  have k2 := xor_lt _ _ k1 h2
  have k3 := xor_lt _ _ k2 h3
  have k4 := xor_lt _ _ k3 h4
  rw [xorI a r1 ha h1, xorI _ r2 k1 h2, xorI _ r3 k2 h3, xorI _ r4 k3 h4, xor99 _ k4]
theorem unsI (r1 r3 r6 : Nat) (h1 : r1 < 256) (h3 : r3 < 256) (h6 : r6 < 256) :
    bits .xor .u8 (bits .xor .u8 (bits .xor .u8 (r1 : Int) r3) r6) 5 = ((r1 ^^^ r3 ^^^ r6 ^^^ 5 : Nat) : Int) := by
  have k3 := xor_lt _ _ h1 h3
  have k6 := xor_lt _ _ k3 h6
  rw [xorI r1 r3 h1 h3, xorI _ r6 k3 h6, xor5 _ k6]
theorem unsS (r1 r3 r6 : Nat) (h1 : r1 < 256) (h3 : r3 < 256) (h6 : r6 < 256) :
    bits .xor .u8 (bits .xor .u8 (r1 : Int) r3) r6 = ((r1 ^^^ r3 ^^^ r6 : Nat) : Int) := by
  have k3 := xor_lt _ _ h1 h3
  rw [xorI r1 r3 h1 h3, xorI _ r6 k3 h6]

set_option maxHeartbeats 1000000 in
theorem implSpr (a : Nat) (ha : a < 256) (w : World) :
    Calls Try.prog 101 #[.int .u8 a] w fun e w' => e = .returned (.int .u8 (spr a)) ∧ w' = w := by
  have h1 : Hid (∀ W, Calls Try.prog 104 #[.int .u8 a, .int .i64 1] W fun e w' => e = .returned (.int .u8 (rol a 1)) ∧ w' = W) := fun W => rotl a 1 ha (by omega) W
  have h2 : Hid (∀ W, Calls Try.prog 104 #[.int .u8 a, .int .i64 2] W fun e w' => e = .returned (.int .u8 (rol a 2)) ∧ w' = W) := fun W => rotl a 2 ha (by omega) W
  have h3 : Hid (∀ W, Calls Try.prog 104 #[.int .u8 a, .int .i64 3] W fun e w' => e = .returned (.int .u8 (rol a 3)) ∧ w' = W) := fun W => rotl a 3 ha (by omega) W
  have h4 : Hid (∀ W, Calls Try.prog 104 #[.int .u8 a, .int .i64 4] W fun e w' => e = .returned (.int .u8 (rol a 4)) ∧ w' = W) := fun W => rotl a 4 ha (by omega) W
  have b1 := rol_lt a 1 ha
  have b2 := rol_lt a 2 ha
  have b3 := rol_lt a 3 ha
  have b4 := rol_lt a 4 ha
  have e0 := hide (show spr a = a ^^^ (rol a 1 ^^^ rol a 2 ^^^ rol a 3 ^^^ rol a 4) ^^^ 99 by unfold spr; simp only [Nat.xor_assoc])
  generalize spr a = r at *
  generalize rol a 1 = r1 at *
  generalize rol a 2 = r2 at *
  generalize rol a 3 = r3 at *
  generalize rol a 4 = r4 at *
  go_enter Try.func101, Try.ntmps101
  go_wp2_with (first
    | (go_at_call 104; with_reducible refine (unhide h1 _).mono ?_; rintro e w1 ⟨rfl, rfl⟩)
    | (go_at_call 104; with_reducible refine (unhide h2 _).mono ?_; rintro e w1 ⟨rfl, rfl⟩)
    | (go_at_call 104; with_reducible refine (unhide h3 _).mono ?_; rintro e w1 ⟨rfl, rfl⟩)
    | (go_at_call 104; with_reducible refine (unhide h4 _).mono ?_; rintro e w1 ⟨rfl, rfl⟩))
  go_ret
  exact ⟨by rw [unhide e0, ← sprI a r1 r2 r3 r4 ha b1 b2 b3 b4]; rfl, rfl⟩
set_option maxHeartbeats 1000000 in
theorem specSub (n : Nat) (hn : n < 256) (w : World) :
    Calls Try.prog 72 #[.int .u8 n] w fun e w' => e = .returned (.int .u8 (sub n)) ∧ w' = w := by
  have hI := hide (fun W => specInv n hn W)
  have ha := inv_lt n hn
  have e1 := hide (show sub n = spr (inv n) from rfl)
  generalize sub n = s at *
  generalize inv n = a at *
  have h1 : Hid (∀ W, Calls Try.prog 95 #[.int .u8 a, .int .u64 1] W fun e w' => e = .returned (.int .u8 (rol a 1)) ∧ w' = W) := fun W => turnl a 1 ha (by omega) W
  have h2 : Hid (∀ W, Calls Try.prog 95 #[.int .u8 a, .int .u64 2] W fun e w' => e = .returned (.int .u8 (rol a 2)) ∧ w' = W) := fun W => turnl a 2 ha (by omega) W
  have h3 : Hid (∀ W, Calls Try.prog 95 #[.int .u8 a, .int .u64 3] W fun e w' => e = .returned (.int .u8 (rol a 3)) ∧ w' = W) := fun W => turnl a 3 ha (by omega) W
  have h4 : Hid (∀ W, Calls Try.prog 95 #[.int .u8 a, .int .u64 4] W fun e w' => e = .returned (.int .u8 (rol a 4)) ∧ w' = W) := fun W => turnl a 4 ha (by omega) W
  have b1 := rol_lt a 1 ha
  have b2 := rol_lt a 2 ha
  have b3 := rol_lt a 3 ha
  have b4 := rol_lt a 4 ha
  have e0 := hide (show spr a = a ^^^ rol a 1 ^^^ rol a 2 ^^^ rol a 3 ^^^ rol a 4 ^^^ 99 from rfl)
  generalize spr a = r at *
  generalize rol a 1 = r1 at *
  generalize rol a 2 = r2 at *
  generalize rol a 3 = r3 at *
  generalize rol a 4 = r4 at *
  go_enter Try.func72, Try.ntmps72
  go_wp2_with (first
    | (go_at_call 95; with_reducible refine (unhide h1 _).mono ?_; rintro e w1 ⟨rfl, rfl⟩)
    | (go_at_call 95; with_reducible refine (unhide h2 _).mono ?_; rintro e w1 ⟨rfl, rfl⟩)
    | (go_at_call 95; with_reducible refine (unhide h3 _).mono ?_; rintro e w1 ⟨rfl, rfl⟩)
    | (go_at_call 95; with_reducible refine (unhide h4 _).mono ?_; rintro e w1 ⟨rfl, rfl⟩)
    | (go_at_call 94; with_reducible refine (unhide hI _).mono ?_; rintro e w1 ⟨rfl, rfl⟩))
  go_ret
  exact ⟨by rw [unhide e1, unhide e0, ← sprS a r1 r2 r3 r4 ha b1 b2 b3 b4]; rfl, rfl⟩
end Go.Proofs.Ytkpodgeinanceaa
