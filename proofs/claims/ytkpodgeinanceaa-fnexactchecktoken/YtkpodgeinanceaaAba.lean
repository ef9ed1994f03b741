/-
  Contracts: the program's AesBlock.
-/
import Derived.Test.YtkpodgeinanceaaAbf
namespace Go.Proofs.Ytkpodgeinanceaa
open Go.ChangeShapes Go.WideShapes Go.ChangeAt Go.RowKit
set_option linter.unusedVariables false
set_option maxRecDepth 100000


end Go.Proofs.Ytkpodgeinanceaa
