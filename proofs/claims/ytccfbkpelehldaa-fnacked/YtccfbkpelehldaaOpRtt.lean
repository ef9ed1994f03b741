/-
  How a laws.Rtt that is handed to a law reads.
-/
import Derived.Test.YtccfbkpelehldaaRtt
import Derived.Test.YtccfbkpelehldaaOre
namespace Go.Proofs.Ytccfbkpelehldaa.Rc
open Go.ChangeShapes Go.WideShapes Go.ChangeAt Go.RowKit Go.Deep
set_option linter.unusedVariables false
set_option maxRecDepth 100000

/-- its numbers and texts fit -/
def okRtt (D : RttD) : Prop := okI D.la ∧ okI D.mi ∧ okI D.sm ∧ okI D.va
end Go.Proofs.Ytccfbkpelehldaa.Rc
