/-
  Contracts: NumberOf of the model.
-/
import Derived.Test.YtiefmgljdibnnaaE6p
namespace Go.Proofs.Ytiefmgljdibnnaa
open Go.ChangeShapes Go.WideShapes Go.ChangeAt Go.RowKit
set_option linter.unusedVariables false
set_option maxRecDepth 100000

theorem orP (n W : Nat) (j : Nat) (hW : W = 2 ^ j) (hj : j ≤ 32) (next low : Nat) (hn : next ≤ 4611686018427387903) (hl : low < W) : bits .or .i64 ((next / W * W : Nat) : Int) (low : Int) = ((next / W * W + low : Nat) : Int) := by
  subst hW
  have h1 : 2 ^ j ≤ 2 ^ 32 := Nat.pow_le_pow_right (by omega) hj
  have h9 := Nat.div_mul_le_self next (2 ^ j)
  have e : (((next / 2 ^ j * 2 ^ j : Nat) : Int)) % 2 ^ j = 0 := by
    have h2 : ((next / 2 ^ j * 2 ^ j) % 2 ^ j : Nat) = 0 := Nat.mul_mod_left _ _
    have h3 : (((next / 2 ^ j * 2 ^ j) % 2 ^ j : Nat) : Int) = ((next / 2 ^ j * 2 ^ j : Nat) : Int) % ((2 ^ j : Nat) : Int) := by simp
    rw [h2] at h3
    have h4 : ((2 ^ j : Nat) : Int) = 2 ^ j := by simp
    rw [h4] at h3
    exact h3.symm
  have h4 : ((2 ^ j : Nat) : Int) = 2 ^ j := by simp
  rw [bits_join .i64 63 (by decide) wraps_i64 j _ _ (by omega) e (by omega) (by omega) (by omega) (by omega)]
  omega
set_option maxHeartbeats 1000000 in
theorem l6n1 (largest : Int) (next low q m : Nat) (hL : largest + 1 = (next : Int)) (hA : bits .andNot .i64 (next : Int) 255 = (q : Int)) (hO : bits .or .i64 (q : Int) (low : Int) = (m : Int)) (hn : next ≤ 4611686018427387903) (hm : m < 4611686022722355200) (w : World) :
    Calls Try.prog 21 #[.int .i64 largest, .int .i64 low, .int .i64 1] w fun e w' => e = .returned (.int .i64 ((if m + 128 ≤ next ∧ m + 256 < 4611686018427387904 then m + 256 else if next + 128 < m ∧ 256 ≤ m then m - 256 else m : Nat) : Int)) ∧ w' = w := by
  have b1 : (0 : Int) ≤ (next : Int) ∧ (next : Int) ≤ 4611686018427387903 := by omega
  have b2 : (0 : Int) ≤ (m : Int) ∧ (m : Int) < 4611686022722355200 := by omega
  have b3 : -1 ≤ largest ∧ largest ≤ 4611686018427387902 := by omega
  by_cases c1 : m + 128 ≤ next
  · have d1 : (m : Int) ≤ (next : Int) - 128 := by omega
    by_cases c2 : m + 256 < 4611686018427387904
    · have d2 : (m : Int) < 4611686018427387648 := by omega
      rw [if_pos ⟨c1, c2⟩]
      clear c1 c2 hn hm
      go_enter Try.func21, Try.ntmps21
      go_wp2
      go_ret
      exact ⟨by simp, rfl⟩
    · have d2 : ¬ (m : Int) < 4611686018427387648 := by omega
      have d3 : ¬ (next : Int) + 128 < (m : Int) := by omega
      rw [if_neg (by omega), if_neg (by omega)]
      clear c1 c2 hn hm
      go_enter Try.func21, Try.ntmps21
      go_wp2
      go_ret
      exact ⟨by simp, rfl⟩
  · have d1 : ¬ (m : Int) ≤ (next : Int) - 128 := by omega
    by_cases c2 : next + 128 < m
    · have d2 : (next : Int) + 128 < (m : Int) := by omega
      by_cases c3 : 256 ≤ m
      · have d3 : (256 : Int) ≤ (m : Int) := by omega
        have e : ((m - 256 : Nat) : Int) = (m : Int) - 256 := by omega
        rw [if_neg (by omega), if_pos ⟨c2, c3⟩, e]
        clear c1 c2 c3 hn hm e
        go_enter Try.func21, Try.ntmps21
        go_wp2
        go_ret
        exact ⟨by simp, rfl⟩
      · have d3 : ¬ (256 : Int) ≤ (m : Int) := by omega
        rw [if_neg (by omega), if_neg (by omega)]
        clear c1 c2 c3 hn hm
        go_enter Try.func21, Try.ntmps21
        go_wp2
        go_ret
        exact ⟨by simp, rfl⟩
    · have d2 : ¬ (next : Int) + 128 < (m : Int) := by omega
      rw [if_neg (by omega), if_neg (by omega)]
      clear c1 c2 hn hm
      go_enter Try.func21, Try.ntmps21
      go_wp2
      go_ret
      exact ⟨by simp, rfl⟩
set_option maxHeartbeats 1000000 in
theorem l6n2 (largest : Int) (next low q m : Nat) (hL : largest + 1 = (next : Int)) (hA : bits .andNot .i64 (next : Int) 65535 = (q : Int)) (hO : bits .or .i64 (q : Int) (low : Int) = (m : Int)) (hn : next ≤ 4611686018427387903) (hm : m < 4611686022722355200) (w : World) :
    Calls Try.prog 21 #[.int .i64 largest, .int .i64 low, .int .i64 2] w fun e w' => e = .returned (.int .i64 ((if m + 32768 ≤ next ∧ m + 65536 < 4611686018427387904 then m + 65536 else if next + 32768 < m ∧ 65536 ≤ m then m - 65536 else m : Nat) : Int)) ∧ w' = w := by
  have b1 : (0 : Int) ≤ (next : Int) ∧ (next : Int) ≤ 4611686018427387903 := by omega
  have b2 : (0 : Int) ≤ (m : Int) ∧ (m : Int) < 4611686022722355200 := by omega
  have b3 : -1 ≤ largest ∧ largest ≤ 4611686018427387902 := by omega
  by_cases c1 : m + 32768 ≤ next
  · have d1 : (m : Int) ≤ (next : Int) - 32768 := by omega
    by_cases c2 : m + 65536 < 4611686018427387904
    · have d2 : (m : Int) < 4611686018427322368 := by omega
      rw [if_pos ⟨c1, c2⟩]
      clear c1 c2 hn hm
      go_enter Try.func21, Try.ntmps21
      go_wp2
      go_ret
      exact ⟨by simp, rfl⟩
    · have d2 : ¬ (m : Int) < 4611686018427322368 := by omega
      have d3 : ¬ (next : Int) + 32768 < (m : Int) := by omega
      rw [if_neg (by omega), if_neg (by omega)]
      clear c1 c2 hn hm
      go_enter Try.func21, Try.ntmps21
      go_wp2
      go_ret
      exact ⟨by simp, rfl⟩
  · have d1 : ¬ (m : Int) ≤ (next : Int) - 32768 := by omega
    by_cases c2 : next + 32768 < m
    · have d2 : (next : Int) + 32768 < (m : Int) := by omega
      by_cases c3 : 65536 ≤ m
      · have d3 : (65536 : Int) ≤ (m : Int) := by omega
        have e : ((m - 65536 : Nat) : Int) = (m : Int) - 65536 := by omega
        rw [if_neg (by omega), if_pos ⟨c2, c3⟩, e]
        clear c1 c2 c3 hn hm e
        go_enter Try.func21, Try.ntmps21
        go_wp2
        go_ret
        exact ⟨by simp, rfl⟩
      · have d3 : ¬ (65536 : Int) ≤ (m : Int) := by omega
        rw [if_neg (by omega), if_neg (by omega)]
        clear c1 c2 c3 hn hm
        go_enter Try.func21, Try.ntmps21
        go_wp2
        go_ret
        exact ⟨by simp, rfl⟩
    · have d2 : ¬ (next : Int) + 32768 < (m : Int) := by omega
      rw [if_neg (by omega), if_neg (by omega)]
      clear c1 c2 hn hm
      go_enter Try.func21, Try.ntmps21
      go_wp2
      go_ret
      exact ⟨by simp, rfl⟩
set_option maxHeartbeats 1000000 in
theorem l6n3 (largest : Int) (next low q m : Nat) (hL : largest + 1 = (next : Int)) (hA : bits .andNot .i64 (next : Int) 16777215 = (q : Int)) (hO : bits .or .i64 (q : Int) (low : Int) = (m : Int)) (hn : next ≤ 4611686018427387903) (hm : m < 4611686022722355200) (w : World) :
    Calls Try.prog 21 #[.int .i64 largest, .int .i64 low, .int .i64 3] w fun e w' => e = .returned (.int .i64 ((if m + 8388608 ≤ next ∧ m + 16777216 < 4611686018427387904 then m + 16777216 else if next + 8388608 < m ∧ 16777216 ≤ m then m - 16777216 else m : Nat) : Int)) ∧ w' = w := by
  have b1 : (0 : Int) ≤ (next : Int) ∧ (next : Int) ≤ 4611686018427387903 := by omega
  have b2 : (0 : Int) ≤ (m : Int) ∧ (m : Int) < 4611686022722355200 := by omega
  have b3 : -1 ≤ largest ∧ largest ≤ 4611686018427387902 := by omega
  by_cases c1 : m + 8388608 ≤ next
  · have d1 : (m : Int) ≤ (next : Int) - 8388608 := by omega
    by_cases c2 : m + 16777216 < 4611686018427387904
    · have d2 : (m : Int) < 4611686018410610688 := by omega
      rw [if_pos ⟨c1, c2⟩]
      clear c1 c2 hn hm
      go_enter Try.func21, Try.ntmps21
      go_wp2
      go_ret
      exact ⟨by simp, rfl⟩
    · have d2 : ¬ (m : Int) < 4611686018410610688 := by omega
      have d3 : ¬ (next : Int) + 8388608 < (m : Int) := by omega
      rw [if_neg (by omega), if_neg (by omega)]
      clear c1 c2 hn hm
      go_enter Try.func21, Try.ntmps21
      go_wp2
      go_ret
      exact ⟨by simp, rfl⟩
  · have d1 : ¬ (m : Int) ≤ (next : Int) - 8388608 := by omega
    by_cases c2 : next + 8388608 < m
    · have d2 : (next : Int) + 8388608 < (m : Int) := by omega
      by_cases c3 : 16777216 ≤ m
      · have d3 : (16777216 : Int) ≤ (m : Int) := by omega
        have e : ((m - 16777216 : Nat) : Int) = (m : Int) - 16777216 := by omega
        rw [if_neg (by omega), if_pos ⟨c2, c3⟩, e]
        clear c1 c2 c3 hn hm e
        go_enter Try.func21, Try.ntmps21
        go_wp2
        go_ret
        exact ⟨by simp, rfl⟩
      · have d3 : ¬ (16777216 : Int) ≤ (m : Int) := by omega
        rw [if_neg (by omega), if_neg (by omega)]
        clear c1 c2 c3 hn hm
        go_enter Try.func21, Try.ntmps21
        go_wp2
        go_ret
        exact ⟨by simp, rfl⟩
    · have d2 : ¬ (next : Int) + 8388608 < (m : Int) := by omega
      rw [if_neg (by omega), if_neg (by omega)]
      clear c1 c2 hn hm
      go_enter Try.func21, Try.ntmps21
      go_wp2
      go_ret
      exact ⟨by simp, rfl⟩
set_option maxHeartbeats 1000000 in
theorem l6n4 (largest : Int) (next low q m : Nat) (hL : largest + 1 = (next : Int)) (hA : bits .andNot .i64 (next : Int) 4294967295 = (q : Int)) (hO : bits .or .i64 (q : Int) (low : Int) = (m : Int)) (hn : next ≤ 4611686018427387903) (hm : m < 4611686022722355200) (w : World) :
    Calls Try.prog 21 #[.int .i64 largest, .int .i64 low, .int .i64 4] w fun e w' => e = .returned (.int .i64 ((if m + 2147483648 ≤ next ∧ m + 4294967296 < 4611686018427387904 then m + 4294967296 else if next + 2147483648 < m ∧ 4294967296 ≤ m then m - 4294967296 else m : Nat) : Int)) ∧ w' = w := by
  have b1 : (0 : Int) ≤ (next : Int) ∧ (next : Int) ≤ 4611686018427387903 := by omega
  have b2 : (0 : Int) ≤ (m : Int) ∧ (m : Int) < 4611686022722355200 := by omega
  have b3 : -1 ≤ largest ∧ largest ≤ 4611686018427387902 := by omega
  by_cases c1 : m + 2147483648 ≤ next
  · have d1 : (m : Int) ≤ (next : Int) - 2147483648 := by omega
    by_cases c2 : m + 4294967296 < 4611686018427387904
    · have d2 : (m : Int) < 4611686014132420608 := by omega
      rw [if_pos ⟨c1, c2⟩]
      clear c1 c2 hn hm
      go_enter Try.func21, Try.ntmps21
      go_wp2
      go_ret
      exact ⟨by simp, rfl⟩
    · have d2 : ¬ (m : Int) < 4611686014132420608 := by omega
      have d3 : ¬ (next : Int) + 2147483648 < (m : Int) := by omega
      rw [if_neg (by omega), if_neg (by omega)]
      clear c1 c2 hn hm
      go_enter Try.func21, Try.ntmps21
      go_wp2
      go_ret
      exact ⟨by simp, rfl⟩
  · have d1 : ¬ (m : Int) ≤ (next : Int) - 2147483648 := by omega
    by_cases c2 : next + 2147483648 < m
    · have d2 : (next : Int) + 2147483648 < (m : Int) := by omega
      by_cases c3 : 4294967296 ≤ m
      · have d3 : (4294967296 : Int) ≤ (m : Int) := by omega
        have e : ((m - 4294967296 : Nat) : Int) = (m : Int) - 4294967296 := by omega
        rw [if_neg (by omega), if_pos ⟨c2, c3⟩, e]
        clear c1 c2 c3 hn hm e
        go_enter Try.func21, Try.ntmps21
        go_wp2
        go_ret
        exact ⟨by simp, rfl⟩
      · have d3 : ¬ (4294967296 : Int) ≤ (m : Int) := by omega
        rw [if_neg (by omega), if_neg (by omega)]
        clear c1 c2 c3 hn hm
        go_enter Try.func21, Try.ntmps21
        go_wp2
        go_ret
        exact ⟨by simp, rfl⟩
    · have d2 : ¬ (next : Int) + 2147483648 < (m : Int) := by omega
      rw [if_neg (by omega), if_neg (by omega)]
      clear c1 c2 hn hm
      go_enter Try.func21, Try.ntmps21
      go_wp2
      go_ret
      exact ⟨by simp, rfl⟩
end Go.Proofs.Ytiefmgljdibnnaa
