/-
  The law on HasNumber, walked.
-/
import Derived.Test.YtenfjcdkabeilaaHasNumberG
import Derived.Test.YtenfjcdkabeilaaRgc
import Derived.Test.YtenfjcdkabeilaaHasNumberI
namespace Go.Proofs.Ytenfjcdkabeilaa.fnExactHasNumber
open Go.ChangeShapes Go.WideShapes Go.ChangeAt Go.RowKit Rc
set_option linter.unusedVariables false

theorem walk (a : Option Addr) (c : Nat) (L : List RangeD) (m : L.length ≤ maxLen) (k : L.length ≤ c) (o : rgO L) (n : Int) (w1 : (Lit.int .i64 n).wf = true) (w : World) (h : Rd rangeK w a L) :
    Calls Try.prog 3 #[.slice a L.length c, .int .i64 n] w fun e w' => e = .returned (.bool true) ∧ Below w.heap.size w w' :=
  hasNumber_given L n (hnB L n) (grB L) w a c m h (fun hm W a c h => specHN L n hm o W a c h) (fun hm W a c h => implHN L n hm o (bounds_i64 w1) W a c h)
end Go.Proofs.Ytenfjcdkabeilaa.fnExactHasNumber
