/-
  The law on CarriedBytes, walked.
-/
import Derived.Test.YtgieglpjkjncfaaDoorCarriedBytesG
namespace Go.Proofs.YtgieglpjkjncfaaDoor.fnExactCarriedBytes
open Go.ChangeShapes Go.WideShapes Go.ChangeAt Go.RowKit Rc
set_option linter.unusedVariables false

theorem walk (D : CarriedD) (o : okCarried D) (w : World) (hz : Tz w) : Calls Tryd.prog 4 #[carriedV D] w fun e w' => e = .returned (.bool true) ∧ Below w.heap.size w w' := carriedBytes_walk D o.2.2 w hz
end Go.Proofs.YtgieglpjkjncfaaDoor.fnExactCarriedBytes
