/-
  Contracts: secrets, infos, numbers and ids that the model draws; a number of bytes.
-/
import Derived.Test.YtgoafbhhihfkfaaDrh
namespace Go.Proofs.Ytgoafbhhihfkfaa
open Go.ChangeShapes Go.WideShapes Go.ChangeAt Go.RowKit
set_option linter.unusedVariables false

set_option maxRecDepth 100000 in
set_option maxHeartbeats 1000000 in
theorem numberOf_any (a : Option Addr) (N cap : Nat) (w : World) (hN : N ≤ 1048576) (h : Cd w a N) :
    Calls Try.prog 23 #[.slice a N cap] w fun e w' => ∃ r : Nat, e = .returned (.int .i64 r) ∧ r < 1000003 ∧ Below w.heap.size w w' := by
  have HC := hide h
  clear h
  go_enter Try.func23, Try.ntmps23
  go_wp2_with fail
  go_loopw [3, 8] (fun nv iv wr => ∃ k r : Nat, k ≤ N ∧ iv = .int .i64 k ∧ nv = .int .i64 r ∧ r < 1000003 ∧ wr = w) (fun _ iv _ => N - (intOf iv).toNat)
  case atStart => exact ⟨0, 0, by omega, rfl, rfl, by omega, rfl⟩
  case round =>
    obtain ⟨k, r, hk, rfl, rfl, hr, hww⟩ := hrel
    obtain rfl := hww.symm
    by_cases hlt : k < N
    · rcases unhide HC with h0 | ⟨b, off, rfl, hl, hx⟩
      · omega
      · obtain ⟨x, hx0, hx1⟩ := hx k hlt
        clear hx HC
        go_wp2
        exact ⟨⟨k + 1, (31 * r + x) % 1000003, by omega, by go_num, by congr 1, Nat.mod_lt _ (by omega), trivial⟩, by simp [intOf]; omega⟩
    · obtain rfl : k = N := by omega
      clear HC
      go_wp2
      go_ret
      exact ⟨r, rfl, hr, Below.refl _ _⟩
end Go.Proofs.Ytgoafbhhihfkfaa
