/-
  The law on StaticAt, walked.
-/
import Derived.Test.YtidgjjbdabifnaaDoorStaticAtG
import Derived.Test.YtidgjjbdabifnaaDoorOpField
namespace Go.Proofs.YtidgjjbdabifnaaDoor.fnExactStaticAt
open Go.ChangeShapes Go.WideShapes Go.ChangeAt Go.RowKit Rc
set_option linter.unusedVariables false

theorem walk (D : FieldD) (o : okField D) (w : World) (h : Sf w) :
    Calls Tryd.prog 4 #[fieldV D] w fun e w' => e = .returned (.bool true) ∧ Below w.heap.size w w' :=
  staticAt_given D o.1 o.2 w h
end Go.Proofs.YtidgjjbdabifnaaDoor.fnExactStaticAt
