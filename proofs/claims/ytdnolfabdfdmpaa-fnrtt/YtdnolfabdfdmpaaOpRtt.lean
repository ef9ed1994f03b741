/-
  How a laws.Rtt that is handed to a law reads.
-/
import Derived.Test.YtdnolfabdfdmpaaRtt
import Derived.Test.YtdnolfabdfdmpaaOre
namespace Go.Proofs.Ytdnolfabdfdmpaa.Rc
open Go.ChangeShapes Go.WideShapes Go.ChangeAt Go.RowKit Go.Deep
set_option linter.unusedVariables false
set_option maxRecDepth 100000

/-- its numbers and texts fit -/
def okRtt (D : RttD) : Prop := okI D.la ∧ okI D.mi ∧ okI D.sm ∧ okI D.va
end Go.Proofs.Ytdnolfabdfdmpaa.Rc
