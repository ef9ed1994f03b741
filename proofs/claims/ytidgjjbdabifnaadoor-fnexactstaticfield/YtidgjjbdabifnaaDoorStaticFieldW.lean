/-
  The law on StaticField, walked.
-/
import Derived.Test.YtidgjjbdabifnaaDoorStaticFieldG
namespace Go.Proofs.YtidgjjbdabifnaaDoor.fnExactStaticField
open Go.ChangeShapes Go.WideShapes Go.ChangeAt Go.RowKit Rc
set_option linter.unusedVariables false

theorem walk (k : Int) (w0 : (Lit.int .i64 k).wf = true) (w : World) (h : Sf w) :
    Calls Tryd.prog 3 #[.int .i64 k] w fun e w' => e = .returned (.bool true) ∧ Below w.heap.size w w' :=
  staticField_given k (sfD k) (sfB k) w (fun W => specSF k W) (fun W b => implSF k W (h.below b))
end Go.Proofs.YtidgjjbdabifnaaDoor.fnExactStaticField
