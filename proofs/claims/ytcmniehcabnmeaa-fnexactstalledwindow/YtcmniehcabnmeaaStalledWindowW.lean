/-
  The law on StalledWindow, walked.
-/
import Derived.Test.YtcmniehcabnmeaaStalledWindowG
import Derived.Test.YtcmniehcabnmeaaStalledWindowI
import Derived.Test.YtcmniehcabnmeaaWnd
namespace Go.Proofs.Ytcmniehcabnmeaa.fnExactStalledWindow
open Go.ChangeShapes Go.WideShapes Go.ChangeAt Go.RowKit Rc
set_option linter.unusedVariables false

theorem walk (D : WindowD) (o : okWindow D) (w : World) : Calls Try.prog 8 #[windowV D] w fun e w' => e = .returned (.bool true) ∧ Below w.heap.size w w' :=
  stalledWindow_given D (swD D (wgB D)) (wgB D) w (fun W => specSW D W) (fun W => implSW D o  W)
end Go.Proofs.Ytcmniehcabnmeaa.fnExactStalledWindow
