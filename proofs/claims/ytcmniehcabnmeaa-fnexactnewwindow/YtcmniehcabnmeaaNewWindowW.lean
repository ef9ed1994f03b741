/-
  The law on NewWindow, walked.
-/
import Derived.Test.YtcmniehcabnmeaaNewWindowG
import Derived.Test.YtcmniehcabnmeaaNewWindowI
import Derived.Test.YtcmniehcabnmeaaWnd
namespace Go.Proofs.Ytcmniehcabnmeaa.fnExactNewWindow
open Go.ChangeShapes Go.WideShapes Go.ChangeAt Go.RowKit Rc
set_option linter.unusedVariables false

theorem walk (w : World) : Calls Try.prog 3 #[] w fun e w' => e = .returned (.bool true) ∧ Below w.heap.size w w' := newWindow_given nwD w (fun W => specNW W) (fun W => implNW W)
end Go.Proofs.Ytcmniehcabnmeaa.fnExactNewWindow
