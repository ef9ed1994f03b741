/-
  The law on SendNumber, walked.
-/
import Derived.Test.YtjmknfedanmcnaaSendNumberG
import Derived.Test.YtjmknfedanmcnaaSendNumberI
import Derived.Test.YtjmknfedanmcnaaSpo
namespace Go.Proofs.Ytjmknfedanmcnaa.fnExactSendNumber
open Go.ChangeShapes Go.WideShapes Go.ChangeAt Go.RowKit Rc
set_option linter.unusedVariables false

theorem snLen (D : SpaceD) (x : SentD) : (snD D x (snB D x)).S.length ≤ 1048576 := by
  cases h : snB D x with
  | false => exact Nat.zero_le _
  | true =>
    show (D.S ++ [x]).length ≤ 1048576
    unfold snB at h
    simp only [Bool.and_eq_true] at h
    have h2 := h.2.2.2.2.2
    unfold gsB at h2
    simp only [Bool.and_eq_true, decide_eq_true_eq] at h2
    have := h2.2.2.1
    omega
theorem walk (D : SpaceD) (a : Option Addr) (c : Nat) (o : okSpace D) (x : SentD) (o' : okSent x) (w : World) (h : RdSpace w a D) :
    Calls Try.prog 8 #[spaceV D a c, sentV x] w fun e w' => e = .returned (.bool true) ∧ Below w.heap.size w w' :=
  sendNumber_given D x (snD D x (snB D x)) (snB D x) w a c o.2.1 h (snLen D x) (fun hm W a c h => specSN D x hm W a c h) (fun hm W a c h hc => implSN D x hm W a c hc h)
end Go.Proofs.Ytjmknfedanmcnaa.fnExactSendNumber
