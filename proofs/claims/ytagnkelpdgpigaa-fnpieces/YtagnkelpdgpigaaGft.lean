/-
  Contract: the model's look at a frame, whole.
-/
import Derived.Test.YtagnkelpdgpigaaGfs
namespace Go.Proofs.Ytagnkelpdgpigaa
open Go.ChangeShapes Go.WideShapes Go.ChangeAt Go.RowKit
set_option linter.unusedVariables false

end Go.Proofs.Ytagnkelpdgpigaa
