/-
  The law on additive increase, walked.
-/
import Derived.Test.YtpjpmlopmknllaaAimdG
import Derived.Test.YtpjpmlopmknllaaGoodWindowI
import Derived.Test.YtpjpmlopmknllaaAckedBytesI
import Derived.Test.YtpjpmlopmknllaaPlayWindowI
namespace Go.Proofs.Ytpjpmlopmknllaa.fnAimd
open Go.ChangeShapes Go.WideShapes Go.ChangeAt Go.RowKit Rc
set_option linter.unusedVariables false
set_option maxRecDepth 100000

theorem walk (a0 : Option Addr) (n0 c0 : Nat) (a1 : Option Addr) (n1 c1 : Nat) (w : World) (hN0 : n0 ≤ 140737488355328) (hN1 : n1 ≤ 140737488355328) (hC0 : Cd w a0 n0) (hC1 : Cd w a1 n1) :
    Calls Try.prog 4 #[.slice a0 n0 c0, .slice a1 n1 c1] w fun e w' => e = .returned (.bool true) ∧ Below w.heap.size w w' := by
  by_cases h : (1048576 : Int) < (n0 : Int) + (n1 : Int)
  · clear hC0 hC1
    go_enter Try.func4, Try.ntmps4
    go_wp2
    go_ret
    exact ⟨rfl, Below.refl _ _⟩
  · exact aimd_given a0 n0 c0 a1 n1 c1 w (by omega) hC0 hC1 (fun D n t o on ot W => implAB D o n t on ot W) (fun D o W => implWG D o W) (fun L hm ho W a c h => implPW L hm ho W a c h)
end Go.Proofs.Ytpjpmlopmknllaa.fnAimd
