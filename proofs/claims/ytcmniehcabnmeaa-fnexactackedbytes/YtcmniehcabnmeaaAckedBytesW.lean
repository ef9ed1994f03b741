/-
  The law on AckedBytes, walked.
-/
import Derived.Test.YtcmniehcabnmeaaAckedBytesG
import Derived.Test.YtcmniehcabnmeaaAckedBytesI
import Derived.Test.YtcmniehcabnmeaaWnd
namespace Go.Proofs.Ytcmniehcabnmeaa.fnExactAckedBytes
open Go.ChangeShapes Go.WideShapes Go.ChangeAt Go.RowKit Rc
set_option linter.unusedVariables false

theorem walk (D : WindowD) (o : okWindow D) (n : Int) (wn : (Lit.int .i64 n).wf = true) (t : Int) (wt : (Lit.int .i64 t).wf = true) (w : World) : Calls Try.prog 6 #[windowV D, .int .i64 n, .int .i64 t] w fun e w' => e = .returned (.bool true) ∧ Below w.heap.size w w' :=
  ackedBytes_given D n t (abD D n t (abB D n t)) (abB D n t) w (fun W => specAB D n t W) (fun W => implAB D o n t (bounds_i64 wn) (bounds_i64 wt) W)
end Go.Proofs.Ytcmniehcabnmeaa.fnExactAckedBytes
