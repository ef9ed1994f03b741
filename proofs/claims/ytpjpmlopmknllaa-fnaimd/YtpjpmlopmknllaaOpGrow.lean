/-
  How a laws.Grow that is handed to a law reads.
-/
import Derived.Test.YtpjpmlopmknllaaRcGrow
import Derived.Test.YtpjpmlopmknllaaOre
namespace Go.Proofs.Ytpjpmlopmknllaa.Rc
open Go.ChangeShapes Go.WideShapes Go.ChangeAt Go.RowKit Go.Deep
set_option linter.unusedVariables false
set_option maxRecDepth 100000

/-- its numbers and texts fit -/
def okGrow (D : GrowD) : Prop := okI D.f0 ∧ okI D.f1 ∧ okI D.f2 ∧ okI D.f3
end Go.Proofs.Ytpjpmlopmknllaa.Rc
