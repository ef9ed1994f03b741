/-
  The law on windows, walked.
-/
import Derived.Test.YtpjpmlopmknllaaWindowG
import Derived.Test.YtpjpmlopmknllaaLostBytesI
import Derived.Test.YtpjpmlopmknllaaSentBytesI
import Derived.Test.YtpjpmlopmknllaaRoomInI
import Derived.Test.YtpjpmlopmknllaaStalledWindowI
import Derived.Test.YtpjpmlopmknllaaGoodWindowI
namespace Go.Proofs.Ytpjpmlopmknllaa.fnWindow
open Go.ChangeShapes Go.WideShapes Go.ChangeAt Go.RowKit Rc
set_option linter.unusedVariables false
set_option maxRecDepth 100000

theorem walk (a0 : Option Addr) (n0 c0 : Nat) (a1 : Option Addr) (n1 c1 : Nat) (w : World) (hN0 : n0 ≤ 140737488355328) (hN1 : n1 ≤ 140737488355328) (hC0 : Cd w a0 n0) (hC1 : Cd w a1 n1) :
    Calls Try.prog 3 #[.slice a0 n0 c0, .slice a1 n1 c1] w fun e w' => e = .returned (.bool true) ∧ Below w.heap.size w w' := by
  by_cases h : (1048576 : Int) < (n0 : Int) + (n1 : Int)
  · clear hC0 hC1
    go_enter Try.func3, Try.ntmps3
    go_wp2
    go_ret
    exact ⟨rfl, Below.refl _ _⟩
  · exact window_given a0 n0 c0 a1 n1 c1 w (by omega) hC0 hC1 (fun D n t now o on ot ow W => implLB D o n t now on ot ow W) (fun D n o on W => implSB D o n on W) (fun D o W => implRI D o W) (fun D o W => implSW D o W) (fun D o W => implWG D o W)
end Go.Proofs.Ytpjpmlopmknllaa.fnWindow
