/-
  How a laws.Sent that is handed to a law reads.
-/
import Derived.Test.YtccfbkpelehldaaRcSent
import Derived.Test.YtccfbkpelehldaaOre
namespace Go.Proofs.Ytccfbkpelehldaa.Rc
open Go.ChangeShapes Go.WideShapes Go.ChangeAt Go.RowKit Go.Deep
set_option linter.unusedVariables false
set_option maxRecDepth 100000

/-- its numbers and texts fit -/
def okSent (D : SentD) : Prop := okI D.f0 ∧ okI D.f1 ∧ okI D.f2
end Go.Proofs.Ytccfbkpelehldaa.Rc
