/-
  The law on GoodWindow, walked.
-/
import Derived.Test.YtcmniehcabnmeaaGoodWindowG
import Derived.Test.YtcmniehcabnmeaaGoodWindowI
import Derived.Test.YtcmniehcabnmeaaWnd
namespace Go.Proofs.Ytcmniehcabnmeaa.fnExactGoodWindow
open Go.ChangeShapes Go.WideShapes Go.ChangeAt Go.RowKit Rc
set_option linter.unusedVariables false

theorem walk (D : WindowD) (o : okWindow D) (w : World) : Calls Try.prog 4 #[windowV D] w fun e w' => e = .returned (.bool true) ∧ Below w.heap.size w w' :=
  goodWindow_given D (wgB D) w (fun W => specWg D W) (fun W => implWG D o  W)
end Go.Proofs.Ytcmniehcabnmeaa.fnExactGoodWindow
