/-
  Contracts: the model's blocks.
-/
import Derived.Test.YtkpodgeinanceaaLwi
import Derived.Test.YtkpodgeinanceaaAba
namespace Go.Proofs.Ytkpodgeinanceaa
open Go.ChangeShapes Go.WideShapes Go.ChangeAt Go.RowKit
set_option linter.unusedVariables false
set_option maxRecDepth 100000

/-- a block by a key -/
def abW (k b : ByteArray) : ByteArray := bq 16 (fw (rk (at8 k)) (at8 b) 10)
theorem abW_size (k b : ByteArray) : (abW k b).size = 16 := bq_size _ _
end Go.Proofs.Ytkpodgeinanceaa
