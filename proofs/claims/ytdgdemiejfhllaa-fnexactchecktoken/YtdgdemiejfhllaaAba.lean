/-
  Contracts: the program's AesBlock.
-/
import Derived.Test.YtdgdemiejfhllaaAbf
namespace Go.Proofs.Ytdgdemiejfhllaa
open Go.ChangeShapes Go.WideShapes Go.ChangeAt Go.RowKit
set_option linter.unusedVariables false
set_option maxRecDepth 100000


end Go.Proofs.Ytdgdemiejfhllaa
