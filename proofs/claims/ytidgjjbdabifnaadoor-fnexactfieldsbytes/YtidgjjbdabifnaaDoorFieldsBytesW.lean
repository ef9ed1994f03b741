/-
  The law on FieldsBytes, walked.
-/
import Derived.Test.YtidgjjbdabifnaaDoorFieldsBytesG
import Derived.Test.YtidgjjbdabifnaaDoorOpField
namespace Go.Proofs.YtidgjjbdabifnaaDoor.fnExactFieldsBytes
open Go.ChangeShapes Go.WideShapes Go.ChangeAt Go.RowKit Rc
set_option linter.unusedVariables false

theorem walk (a : Option Addr) (c : Nat) (L : List FieldD) (m : L.length ≤ maxLen) (k : L.length ≤ c) (o : ∀ i, i < L.length → okField (gt fieldK L i)) (w : World) (h : Rd fieldK w a L) (hS : Sf w) :
    Calls Tryd.prog 5 #[.slice a L.length c] w fun e w' => e = .returned (.bool true) ∧ Below w.heap.size w w' :=
  fieldsBytes_given L (fbR L) (gdF L) w a c m o h (fun hm ho W a c h => specFB L a c W hm ho h) (fun hm ho W a c h b => implFB L a c W (hS.below b) hm ho h)
end Go.Proofs.YtidgjjbdabifnaaDoor.fnExactFieldsBytes
