/-
  The law on FieldOf, walked.
-/
import Derived.Test.YtidgjjbdabifnabFieldOfG
import Derived.Test.YtidgjjbdabifnabOpField
namespace Go.Proofs.Ytidgjjbdabifnab.fnExactFieldOf
open Go.ChangeShapes Go.WideShapes Go.ChangeAt Go.RowKit Rc
set_option linter.unusedVariables false

theorem walk (a : Option Addr) (c : Nat) (L : List FieldD) (m : L.length ≤ maxLen) (k : L.length ≤ c) (o : ∀ i, i < L.length → okField (gt fieldK L i)) (s : ByteArray) (w1 : s.size ≤ maxLen) (w : World) (h : Rd fieldK w a L) :
    Calls Try.prog 3 #[.slice a L.length c, .string s] w fun e w' => e = .returned (.bool true) ∧ Below w.heap.size w w' :=
  fieldOf_given L s ((foB L s).getD ⟨#[]⟩) (foB L s).isSome w a c m o h (fun hm ho W a c h => specFO L s a c W hm ho h) (fun hm ho W a c h => implFO L s a c W hm ho h)
end Go.Proofs.Ytidgjjbdabifnab.fnExactFieldOf
