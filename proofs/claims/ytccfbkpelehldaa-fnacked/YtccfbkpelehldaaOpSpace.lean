/-
  How a space that is handed to a law reads.
-/
import Derived.Test.YtccfbkpelehldaaOpSent
import Derived.Test.YtccfbkpelehldaaOpRtt
import Derived.Test.YtccfbkpelehldaaSpc
namespace Go.Proofs.Ytccfbkpelehldaa.Rc
open Go.ChangeShapes Go.WideShapes Go.ChangeAt Go.RowKit Go.Deep
set_option linter.unusedVariables false
set_option maxRecDepth 100000

/-- its numbers fit -/
def okSpace (D : SpaceD) : Prop := okI D.lg ∧ D.S.length ≤ maxLen ∧ (∀ i, i < D.S.length → okSent (gt sentK D.S i)) ∧ okRtt D.r
end Go.Proofs.Ytccfbkpelehldaa.Rc
