/-
  The law on LostBytes, walked.
-/
import Derived.Test.YtcmniehcabnmeaaLostBytesG
import Derived.Test.YtcmniehcabnmeaaLostBytesI
import Derived.Test.YtcmniehcabnmeaaWnd
namespace Go.Proofs.Ytcmniehcabnmeaa.fnExactLostBytes
open Go.ChangeShapes Go.WideShapes Go.ChangeAt Go.RowKit Rc
set_option linter.unusedVariables false

theorem walk (D : WindowD) (o : okWindow D) (n : Int) (wn : (Lit.int .i64 n).wf = true) (t : Int) (wt : (Lit.int .i64 t).wf = true) (now : Int) (wnow : (Lit.int .i64 now).wf = true) (w : World) : Calls Try.prog 7 #[windowV D, .int .i64 n, .int .i64 t, .int .i64 now] w fun e w' => e = .returned (.bool true) ∧ Below w.heap.size w w' :=
  lostBytes_given D n t now (lbD D n t now (lbB D n t now)) (lbB D n t now) w (fun W => specLB D n t now W) (fun W => implLB D o n t now (bounds_i64 wn) (bounds_i64 wt) (bounds_i64 wnow) W)
end Go.Proofs.Ytcmniehcabnmeaa.fnExactLostBytes
