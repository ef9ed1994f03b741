/-
  Contracts: numbers told shortly and told back, of both sides.
-/
import Derived.Test.YtiefmgljdibnnaaE6k
import Derived.Laws.BitsLemmas
namespace Go.Proofs.Ytiefmgljdibnnaa
open Go.ChangeShapes Go.WideShapes Go.ChangeAt Go.RowKit
set_option linter.unusedVariables false
set_option maxRecDepth 100000

theorem and_high (a j : Nat) (hj : j ≤ 64) (ha : a < 2 ^ 64) : a &&& (2 ^ 64 - 2 ^ j) = a / 2 ^ j * 2 ^ j := by
  have e : 2 ^ 64 - 2 ^ j = (2 ^ (64 - j) - 1) <<< j := by
    rw [Nat.shiftLeft_eq, Nat.sub_mul, ← Nat.pow_add, Nat.one_mul, show 64 - j + j = 64 by omega]
  have e2 : a / 2 ^ j * 2 ^ j = (a >>> j) <<< j := by rw [Nat.shiftLeft_eq, Nat.shiftRight_eq_div_pow]
  rw [e, e2]
  apply Nat.eq_of_testBit_eq
  intro i
  rw [Nat.testBit_and, Nat.testBit_shiftLeft, Nat.testBit_shiftLeft, Nat.testBit_shiftRight, Nat.testBit_two_pow_sub_one]
  by_cases h : j ≤ i
  · rw [show j + (i - j) = i by omega]
    by_cases h2 : i < 64
    · have h3 : i - j < 64 - j := by omega
      simp [h, h3]
    · have h4 : a.testBit i = false := Nat.testBit_lt_two_pow (Nat.lt_of_lt_of_le ha (Nat.pow_le_pow_right (by omega) (by omega)))
      simp [h4]
  · simp [h]
theorem andNot_pow (n j : Nat) (hn : n < 9223372036854775808) (hj : j ≤ 32) : bits .andNot .i64 (n : Int) ((2 ^ j - 1 : Nat) : Int) = ((n / 2 ^ j * 2 ^ j : Nat) : Int) := by
  have h1 : 2 ^ j ≤ 2 ^ 32 := Nat.pow_le_pow_right (by omega) hj
  have h0 : 0 < 2 ^ j := Nat.two_pow_pos j
  show IntKind.i64.wrap ((BitVec.ofInt 64 (n : Int) &&& ~~~BitVec.ofInt 64 ((2 ^ j - 1 : Nat) : Int)).toNat : Int) = _
  have q1 : (BitVec.ofInt 64 (n : Int)).toNat = n := by rw [BitVec.toNat_ofInt]; omega
  have q2 : (BitVec.ofInt 64 ((2 ^ j - 1 : Nat) : Int)).toNat = 2 ^ j - 1 := by rw [BitVec.toNat_ofInt]; omega
  rw [BitVec.toNat_and, BitVec.toNat_not, q1, q2, show 2 ^ 64 - 1 - (2 ^ j - 1) = 2 ^ 64 - 2 ^ j by omega, and_high n j (by omega) (by omega)]
  have h9 := Nat.div_mul_le_self n (2 ^ j)
  exact wraps_i64 _ (by omega) (by omega)
/-- the number next to what came that ends in low -/
def nrF (next low wide : Nat) : Nat :=
  let n := next / wide * wide + low
  if n + wide / 2 ≤ next ∧ n + wide < 4611686018427387904 then n + wide else if next + wide / 2 < n ∧ wide ≤ n then n - wide else n
theorem nrF_def (next low wide : Nat) : nrF next low wide = if next / wide * wide + low + wide / 2 ≤ next ∧ next / wide * wide + low + wide < 4611686018427387904 then next / wide * wide + low + wide else if next + wide / 2 < next / wide * wide + low ∧ wide ≤ next / wide * wide + low then next / wide * wide + low - wide else next / wide * wide + low := rfl
theorem goodN (n : Int) (w : World) :
    Calls Try.prog 16 #[.int .i64 n] w fun e w' => e = .returned (.bool (decide (0 ≤ n) && decide (n ≤ 4611686018427387903))) ∧ w' = w := by
  by_cases h : 0 ≤ n
  · have h1 : decide (0 ≤ n) = true := by simpa using h
    go_enter Try.func16, Try.ntmps16
    go_wp2
    go_ret
    exact ⟨by rw [h1]; rfl, rfl⟩
  · have h1 : decide (0 ≤ n) = false := by simpa using h
    go_enter Try.func16, Try.ntmps16
    go_wp2
    go_ret
    exact ⟨rfl, rfl⟩
set_option maxHeartbeats 1000000 in
theorem near1 (next low m : Nat) (hX : wrap64 ((next : Int) - (next : Int) % 256 + (low : Int)) = (m : Int)) (hn : next ≤ 4611686018427387903) (hm : m < 4611686022722355200) (w : World) :
    Calls Try.prog 24 #[.int .i64 next, .int .i64 low, .int .i64 256] w fun e w' => e = .returned (.int .i64 ((if m + 128 ≤ next ∧ m + 256 < 4611686018427387904 then m + 256 else if next + 128 < m ∧ 256 ≤ m then m - 256 else m : Nat) : Int)) ∧ w' = w := by
  have b1 : (0 : Int) ≤ (next : Int) ∧ (next : Int) ≤ 4611686018427387903 := by omega
  have b2 : (0 : Int) ≤ (m : Int) ∧ (m : Int) < 4611686022722355200 := by omega
  by_cases c1 : m + 128 ≤ next
  · have d1 : (m : Int) ≤ (next : Int) - 128 := by omega
    by_cases c2 : m + 256 < 4611686018427387904
    · have d2 : (m : Int) < 4611686018427387648 := by omega
      rw [if_pos ⟨c1, c2⟩]
      clear c1 c2 hn hm
      go_enter Try.func24, Try.ntmps24
      go_wp2
      go_ret
      exact ⟨by simp, rfl⟩
    · have d2 : ¬ (m : Int) < 4611686018427387648 := by omega
      have d3 : ¬ (next : Int) + 128 < (m : Int) := by omega
      rw [if_neg (by omega), if_neg (by omega)]
      clear c1 c2 hn hm
      go_enter Try.func24, Try.ntmps24
      go_wp2
      go_ret
      exact ⟨by simp, rfl⟩
  · have d1 : ¬ (m : Int) ≤ (next : Int) - 128 := by omega
    by_cases c2 : next + 128 < m
    · have d2 : (next : Int) + 128 < (m : Int) := by omega
      by_cases c3 : 256 ≤ m
      · have d3 : (256 : Int) ≤ (m : Int) := by omega
        have e : ((m - 256 : Nat) : Int) = (m : Int) - 256 := by omega
        rw [if_neg (by omega), if_pos ⟨c2, c3⟩, e]
        clear c1 c2 c3 hn hm e
        go_enter Try.func24, Try.ntmps24
        go_wp2
        go_ret
        exact ⟨by simp, rfl⟩
      · have d3 : ¬ (256 : Int) ≤ (m : Int) := by omega
        rw [if_neg (by omega), if_neg (by omega)]
        clear c1 c2 c3 hn hm
        go_enter Try.func24, Try.ntmps24
        go_wp2
        go_ret
        exact ⟨by simp, rfl⟩
    · have d2 : ¬ (next : Int) + 128 < (m : Int) := by omega
      rw [if_neg (by omega), if_neg (by omega)]
      clear c1 c2 hn hm
      go_enter Try.func24, Try.ntmps24
      go_wp2
      go_ret
      exact ⟨by simp, rfl⟩
set_option maxHeartbeats 1000000 in
theorem near2 (next low m : Nat) (hX : wrap64 ((next : Int) - (next : Int) % 65536 + (low : Int)) = (m : Int)) (hn : next ≤ 4611686018427387903) (hm : m < 4611686022722355200) (w : World) :
    Calls Try.prog 24 #[.int .i64 next, .int .i64 low, .int .i64 65536] w fun e w' => e = .returned (.int .i64 ((if m + 32768 ≤ next ∧ m + 65536 < 4611686018427387904 then m + 65536 else if next + 32768 < m ∧ 65536 ≤ m then m - 65536 else m : Nat) : Int)) ∧ w' = w := by
  have b1 : (0 : Int) ≤ (next : Int) ∧ (next : Int) ≤ 4611686018427387903 := by omega
  have b2 : (0 : Int) ≤ (m : Int) ∧ (m : Int) < 4611686022722355200 := by omega
  by_cases c1 : m + 32768 ≤ next
  · have d1 : (m : Int) ≤ (next : Int) - 32768 := by omega
    by_cases c2 : m + 65536 < 4611686018427387904
    · have d2 : (m : Int) < 4611686018427322368 := by omega
      rw [if_pos ⟨c1, c2⟩]
      clear c1 c2 hn hm
      go_enter Try.func24, Try.ntmps24
      go_wp2
      go_ret
      exact ⟨by simp, rfl⟩
    · have d2 : ¬ (m : Int) < 4611686018427322368 := by omega
      have d3 : ¬ (next : Int) + 32768 < (m : Int) := by omega
      rw [if_neg (by omega), if_neg (by omega)]
      clear c1 c2 hn hm
      go_enter Try.func24, Try.ntmps24
      go_wp2
      go_ret
      exact ⟨by simp, rfl⟩
  · have d1 : ¬ (m : Int) ≤ (next : Int) - 32768 := by omega
    by_cases c2 : next + 32768 < m
    · have d2 : (next : Int) + 32768 < (m : Int) := by omega
      by_cases c3 : 65536 ≤ m
      · have d3 : (65536 : Int) ≤ (m : Int) := by omega
        have e : ((m - 65536 : Nat) : Int) = (m : Int) - 65536 := by omega
        rw [if_neg (by omega), if_pos ⟨c2, c3⟩, e]
        clear c1 c2 c3 hn hm e
        go_enter Try.func24, Try.ntmps24
        go_wp2
        go_ret
        exact ⟨by simp, rfl⟩
      · have d3 : ¬ (65536 : Int) ≤ (m : Int) := by omega
        rw [if_neg (by omega), if_neg (by omega)]
        clear c1 c2 c3 hn hm
        go_enter Try.func24, Try.ntmps24
        go_wp2
        go_ret
        exact ⟨by simp, rfl⟩
    · have d2 : ¬ (next : Int) + 32768 < (m : Int) := by omega
      rw [if_neg (by omega), if_neg (by omega)]
      clear c1 c2 hn hm
      go_enter Try.func24, Try.ntmps24
      go_wp2
      go_ret
      exact ⟨by simp, rfl⟩
set_option maxHeartbeats 1000000 in
theorem near3 (next low m : Nat) (hX : wrap64 ((next : Int) - (next : Int) % 16777216 + (low : Int)) = (m : Int)) (hn : next ≤ 4611686018427387903) (hm : m < 4611686022722355200) (w : World) :
    Calls Try.prog 24 #[.int .i64 next, .int .i64 low, .int .i64 16777216] w fun e w' => e = .returned (.int .i64 ((if m + 8388608 ≤ next ∧ m + 16777216 < 4611686018427387904 then m + 16777216 else if next + 8388608 < m ∧ 16777216 ≤ m then m - 16777216 else m : Nat) : Int)) ∧ w' = w := by
  have b1 : (0 : Int) ≤ (next : Int) ∧ (next : Int) ≤ 4611686018427387903 := by omega
  have b2 : (0 : Int) ≤ (m : Int) ∧ (m : Int) < 4611686022722355200 := by omega
  by_cases c1 : m + 8388608 ≤ next
  · have d1 : (m : Int) ≤ (next : Int) - 8388608 := by omega
    by_cases c2 : m + 16777216 < 4611686018427387904
    · have d2 : (m : Int) < 4611686018410610688 := by omega
      rw [if_pos ⟨c1, c2⟩]
      clear c1 c2 hn hm
      go_enter Try.func24, Try.ntmps24
      go_wp2
      go_ret
      exact ⟨by simp, rfl⟩
    · have d2 : ¬ (m : Int) < 4611686018410610688 := by omega
      have d3 : ¬ (next : Int) + 8388608 < (m : Int) := by omega
      rw [if_neg (by omega), if_neg (by omega)]
      clear c1 c2 hn hm
      go_enter Try.func24, Try.ntmps24
      go_wp2
      go_ret
      exact ⟨by simp, rfl⟩
  · have d1 : ¬ (m : Int) ≤ (next : Int) - 8388608 := by omega
    by_cases c2 : next + 8388608 < m
    · have d2 : (next : Int) + 8388608 < (m : Int) := by omega
      by_cases c3 : 16777216 ≤ m
      · have d3 : (16777216 : Int) ≤ (m : Int) := by omega
        have e : ((m - 16777216 : Nat) : Int) = (m : Int) - 16777216 := by omega
        rw [if_neg (by omega), if_pos ⟨c2, c3⟩, e]
        clear c1 c2 c3 hn hm e
        go_enter Try.func24, Try.ntmps24
        go_wp2
        go_ret
        exact ⟨by simp, rfl⟩
      · have d3 : ¬ (16777216 : Int) ≤ (m : Int) := by omega
        rw [if_neg (by omega), if_neg (by omega)]
        clear c1 c2 c3 hn hm
        go_enter Try.func24, Try.ntmps24
        go_wp2
        go_ret
        exact ⟨by simp, rfl⟩
    · have d2 : ¬ (next : Int) + 8388608 < (m : Int) := by omega
      rw [if_neg (by omega), if_neg (by omega)]
      clear c1 c2 hn hm
      go_enter Try.func24, Try.ntmps24
      go_wp2
      go_ret
      exact ⟨by simp, rfl⟩
set_option maxHeartbeats 1000000 in
theorem near4 (next low m : Nat) (hX : wrap64 ((next : Int) - (next : Int) % 4294967296 + (low : Int)) = (m : Int)) (hn : next ≤ 4611686018427387903) (hm : m < 4611686022722355200) (w : World) :
    Calls Try.prog 24 #[.int .i64 next, .int .i64 low, .int .i64 4294967296] w fun e w' => e = .returned (.int .i64 ((if m + 2147483648 ≤ next ∧ m + 4294967296 < 4611686018427387904 then m + 4294967296 else if next + 2147483648 < m ∧ 4294967296 ≤ m then m - 4294967296 else m : Nat) : Int)) ∧ w' = w := by
  have b1 : (0 : Int) ≤ (next : Int) ∧ (next : Int) ≤ 4611686018427387903 := by omega
  have b2 : (0 : Int) ≤ (m : Int) ∧ (m : Int) < 4611686022722355200 := by omega
  by_cases c1 : m + 2147483648 ≤ next
  · have d1 : (m : Int) ≤ (next : Int) - 2147483648 := by omega
    by_cases c2 : m + 4294967296 < 4611686018427387904
    · have d2 : (m : Int) < 4611686014132420608 := by omega
      rw [if_pos ⟨c1, c2⟩]
      clear c1 c2 hn hm
      go_enter Try.func24, Try.ntmps24
      go_wp2
      go_ret
      exact ⟨by simp, rfl⟩
    · have d2 : ¬ (m : Int) < 4611686014132420608 := by omega
      have d3 : ¬ (next : Int) + 2147483648 < (m : Int) := by omega
      rw [if_neg (by omega), if_neg (by omega)]
      clear c1 c2 hn hm
      go_enter Try.func24, Try.ntmps24
      go_wp2
      go_ret
      exact ⟨by simp, rfl⟩
  · have d1 : ¬ (m : Int) ≤ (next : Int) - 2147483648 := by omega
    by_cases c2 : next + 2147483648 < m
    · have d2 : (next : Int) + 2147483648 < (m : Int) := by omega
      by_cases c3 : 4294967296 ≤ m
      · have d3 : (4294967296 : Int) ≤ (m : Int) := by omega
        have e : ((m - 4294967296 : Nat) : Int) = (m : Int) - 4294967296 := by omega
        rw [if_neg (by omega), if_pos ⟨c2, c3⟩, e]
        clear c1 c2 c3 hn hm e
        go_enter Try.func24, Try.ntmps24
        go_wp2
        go_ret
        exact ⟨by simp, rfl⟩
      · have d3 : ¬ (4294967296 : Int) ≤ (m : Int) := by omega
        rw [if_neg (by omega), if_neg (by omega)]
        clear c1 c2 c3 hn hm
        go_enter Try.func24, Try.ntmps24
        go_wp2
        go_ret
        exact ⟨by simp, rfl⟩
    · have d2 : ¬ (next : Int) + 2147483648 < (m : Int) := by omega
      rw [if_neg (by omega), if_neg (by omega)]
      clear c1 c2 hn hm
      go_enter Try.func24, Try.ntmps24
      go_wp2
      go_ret
      exact ⟨by simp, rfl⟩
end Go.Proofs.Ytiefmgljdibnnaa
