/-
  The law on RoomIn, walked.
-/
import Derived.Test.YtcmniehcabnmeabRoomInG
import Derived.Test.YtcmniehcabnmeabRoomInI
import Derived.Test.YtcmniehcabnmeabWnd
namespace Go.Proofs.Ytcmniehcabnmeab.fnExactRoomIn
open Go.ChangeShapes Go.WideShapes Go.ChangeAt Go.RowKit Rc
set_option linter.unusedVariables false

theorem walk (D : WindowD) (o : okWindow D) (w : World) : Calls Try.prog 3 #[windowV D] w fun e w' => e = .returned (.bool true) ∧ Below w.heap.size w w' :=
  roomIn_given D (riN D (wgB D)) (wgB D) w (fun W => specRI D W) (fun W => implRI D o  W)
end Go.Proofs.Ytcmniehcabnmeab.fnExactRoomIn
