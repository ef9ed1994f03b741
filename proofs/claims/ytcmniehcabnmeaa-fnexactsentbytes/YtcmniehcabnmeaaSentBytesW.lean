/-
  The law on SentBytes, walked.
-/
import Derived.Test.YtcmniehcabnmeaaSentBytesG
import Derived.Test.YtcmniehcabnmeaaSentBytesI
import Derived.Test.YtcmniehcabnmeaaWnd
namespace Go.Proofs.Ytcmniehcabnmeaa.fnExactSentBytes
open Go.ChangeShapes Go.WideShapes Go.ChangeAt Go.RowKit Rc
set_option linter.unusedVariables false

theorem walk (D : WindowD) (o : okWindow D) (n : Int) (wn : (Lit.int .i64 n).wf = true) (w : World) : Calls Try.prog 5 #[windowV D, .int .i64 n] w fun e w' => e = .returned (.bool true) ∧ Below w.heap.size w w' :=
  sentBytes_given D n (sbD D n (sbB D n)) (sbB D n) w (fun W => specSB D n W) (fun W => implSB D o n (bounds_i64 wn) W)
end Go.Proofs.Ytcmniehcabnmeaa.fnExactSentBytes
