/-
  How a laws.Range that is handed to a law reads.
-/
import Derived.Test.YtccfbkpelehldaaRcRange
import Derived.Test.YtccfbkpelehldaaOre
namespace Go.Proofs.Ytccfbkpelehldaa.Rc
open Go.ChangeShapes Go.WideShapes Go.ChangeAt Go.RowKit Go.Deep
set_option linter.unusedVariables false
set_option maxRecDepth 100000

/-- its numbers and texts fit -/
def okRange (D : RangeD) : Prop := okI D.f0 ∧ okI D.f1
end Go.Proofs.Ytccfbkpelehldaa.Rc
