/-
  The law on PutNumber, walked.
-/
import Derived.Test.YtjmknfedanmcnaaPutNumberG
import Derived.Test.YtjmknfedanmcnaaRgc
import Derived.Test.YtjmknfedanmcnaaPutNumberI
namespace Go.Proofs.Ytjmknfedanmcnaa.fnExactPutNumber
open Go.ChangeShapes Go.WideShapes Go.ChangeAt Go.RowKit Rc
set_option linter.unusedVariables false

theorem walk (a : Option Addr) (c : Nat) (L : List RangeD) (m : L.length ≤ maxLen) (k : L.length ≤ c) (o : rgO L) (n : Int) (w1 : (Lit.int .i64 n).wf = true) (w : World) (h : Rd rangeK w a L) :
    Calls Try.prog 4 #[.slice a L.length c, .int .i64 n] w fun e w' => e = .returned (.bool true) ∧ Below w.heap.size w w' :=
  putNumber_given L n (pnL L n (pnB L n)) (pnB L n) w a c m h (by have := pnL_len L n (pnB L n); omega) (fun hm W a c h => specPN L n hm o W a c h) (fun hm W a c h => implPN L n hm o (bounds_i64 w1) W a c h)
end Go.Proofs.Ytjmknfedanmcnaa.fnExactPutNumber
