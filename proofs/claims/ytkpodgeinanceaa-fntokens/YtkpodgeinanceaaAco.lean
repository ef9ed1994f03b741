/-
  Contracts: the program's AesCounter.
-/
import Derived.Test.YtkpodgeinanceaaAct
namespace Go.Proofs.Ytkpodgeinanceaa
open Go.ChangeShapes Go.WideShapes Go.ChangeAt Go.RowKit
set_option linter.unusedVariables false
set_option maxRecDepth 100000

/-- a text that is counted -/
def ctW (k s t : ByteArray) : ByteArray := bq t.size (fun i => at8 t i ^^^ cvW (rk (at8 k)) (at8 s) i)
theorem ctW_size (k s t : ByteArray) : (ctW k s t).size = t.size := bq_size _ _
end Go.Proofs.Ytkpodgeinanceaa
