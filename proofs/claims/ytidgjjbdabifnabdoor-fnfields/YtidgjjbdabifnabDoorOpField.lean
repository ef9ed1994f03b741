/-
  How a laws.Field that is handed to a law reads.
-/
import Derived.Test.YtidgjjbdabifnabDoorRcField
import Derived.Test.YtidgjjbdabifnabDoorOre
namespace Go.Proofs.YtidgjjbdabifnabDoor.Rc
open Go.ChangeShapes Go.WideShapes Go.ChangeAt Go.RowKit Go.Deep
set_option linter.unusedVariables false
set_option maxRecDepth 100000

/-- its numbers and texts fit -/
def okField (D : FieldD) : Prop := D.f0.size ≤ maxLen ∧ D.f1.size ≤ maxLen
theorem cStr : Tryd.prog.cellsOf 9 = 1 := by kernel_rfl
end Go.Proofs.YtidgjjbdabifnabDoor.Rc
