/-
  The law on GoodFields, walked.
-/
import Derived.Test.YtidgjjbdabifnaaGoodFieldsG
import Derived.Test.YtidgjjbdabifnaaOpField
namespace Go.Proofs.Ytidgjjbdabifnaa.fnExactGoodFields
open Go.ChangeShapes Go.WideShapes Go.ChangeAt Go.RowKit Rc
set_option linter.unusedVariables false

theorem walk (a : Option Addr) (c : Nat) (L : List FieldD) (m : L.length ≤ maxLen) (k : L.length ≤ c) (o : ∀ i, i < L.length → okField (gt fieldK L i)) (w : World) (h : Rd fieldK w a L) :
    Calls Try.prog 5 #[.slice a L.length c] w fun e w' => e = .returned (.bool true) ∧ Below w.heap.size w w' :=
  goodFields_given L (gdF L) w a c m o h (fun hm ho W a c h => specGF L a c W hm ho h) (fun hm ho W a c h => implGF L a c W hm ho h)
end Go.Proofs.Ytidgjjbdabifnaa.fnExactGoodFields
