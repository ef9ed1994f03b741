/-
  The law on JoinRanges, walked.
-/
import Derived.Test.YtjmknfedanmcnaaJoinRangesG
import Derived.Test.YtjmknfedanmcnaaRgj
import Derived.Test.YtjmknfedanmcnaaJoinRangesI
namespace Go.Proofs.Ytjmknfedanmcnaa.fnExactJoinRanges
open Go.ChangeShapes Go.WideShapes Go.ChangeAt Go.RowKit Rc
set_option linter.unusedVariables false

theorem walk (a : Option Addr) (c : Nat) (A : List RangeD) (m : A.length ≤ maxLen) (k : A.length ≤ c) (o : rgO A) (a' : Option Addr) (c' : Nat) (B : List RangeD) (m' : B.length ≤ maxLen) (k' : B.length ≤ c') (o' : rgO B) (w : World) (h : Rd rangeK w a A) (h' : Rd rangeK w a' B) :
    Calls Try.prog 5 #[.slice a A.length c, .slice a' B.length c'] w fun e w' => e = .returned (.bool true) ∧ Below w.heap.size w w' :=
  joinRanges_given A B (jnL A B (jnB A B)) (jnB A B) w a c m h a' c' m' h' (by have := jnL_len A B; omega) (fun hm hm' W a c a' c' h h' => specJR A B hm hm' o o' W a c a' c' h h') (fun hm hm' W a c a' c' h h' => implJR A B hm hm' o o' W a c a' c' h h')
end Go.Proofs.Ytjmknfedanmcnaa.fnExactJoinRanges
