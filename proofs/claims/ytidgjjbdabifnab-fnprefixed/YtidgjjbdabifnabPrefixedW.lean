/-
  The law on numbers with what stands above them, walked, for any two rows of bytes.
-/
import Derived.Test.YtidgjjbdabifnabPrefixedG
namespace Go.Proofs.Ytidgjjbdabifnab.fnPrefixed
open Go.ChangeShapes Go.WideShapes Go.ChangeAt Go.RowKit Rc
set_option linter.unusedVariables false
set_option maxRecDepth 100000

theorem walk (a0 : Option Addr) (n0 c0 : Nat) (a1 : Option Addr) (n1 c1 : Nat) (w : World) (hN0 : n0 ≤ 140737488355328) (hN1 : n1 ≤ 140737488355328) (hC0 : Cd w a0 n0) (hC1 : Cd w a1 n1) :
    Calls Try.prog 4 #[.slice a0 n0 c0, .slice a1 n1 c1] w fun e w' => e = .returned (.bool true) ∧ Below w.heap.size w w' := by
  by_cases h : (1048576 : Int) < (n0 : Int) + (n1 : Int)
  · clear hC0 hC1
    go_enter Try.func4, Try.ntmps4
    go_wp2
    go_ret
    exact ⟨rfl, Below.refl _ _⟩
  · exact prefixed_given a0 n0 c0 a1 n1 c1 w (by omega) hC0 hC1
end Go.Proofs.Ytidgjjbdabifnab.fnPrefixed
