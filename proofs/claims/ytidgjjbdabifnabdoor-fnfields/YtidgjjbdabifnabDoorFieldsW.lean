/-
  The law on fields, walked, for any two rows of bytes.
-/
import Derived.Test.YtidgjjbdabifnabDoorFne
namespace Go.Proofs.YtidgjjbdabifnabDoor.fnFields
open Go.ChangeShapes Go.WideShapes Go.ChangeAt Go.RowKit Rc
open Go.Proofs.YtidgjjbdabifnabDoor.Dr (Cd numberOf_any drawFB_any)
set_option linter.unusedVariables false
set_option maxRecDepth 100000

theorem walk (a0 : Option Addr) (n0 c0 : Nat) (a1 : Option Addr) (n1 c1 : Nat) (w : World) (hN0 : n0 ≤ 140737488355328) (hN1 : n1 ≤ 140737488355328) (hC0 : Cd w a0 n0) (hC1 : Cd w a1 n1) (hS : Sf w) :
    Calls Tryd.prog 4 #[.slice a0 n0 c0, .slice a1 n1 c1] w fun e w' => e = .returned (.bool true) ∧ Below w.heap.size w w' := by
  by_cases h : (1048576 : Int) < (n0 : Int) + (n1 : Int)
  · clear hC0 hC1 hS
    go_enter Tryd.func4, Tryd.ntmps4
    go_wp2
    go_ret
    exact ⟨rfl, Below.refl _ _⟩
  · exact fields_given a0 n0 c0 a1 n1 c1 w (by omega) hS (drawFB_any a0 n0 c0 w (by omega) hC0) (fun W b => numberOf_any a1 n1 c1 W (by omega) (hC1.below b))
end Go.Proofs.YtidgjjbdabifnabDoor.fnFields
