/-
  Contract: the model's look at a frame: it answers 'gf'.
-/
import Derived.Test.YtagnkelpdgpigaaGft
namespace Go.Proofs.Ytagnkelpdgpigaa
open Go.ChangeShapes Go.WideShapes Go.ChangeAt Go.RowKit
set_option linter.unusedVariables false

theorem Rr.alloc {w : World} {b off n : Nat} {F T : Nat → Int} (h : Rr w b off n F T) (o : Obj) : Rr (w.alloc o) b off n F T := h.below ((Below.refl _ _).alloc (Nat.le_refl _) _)

end Go.Proofs.Ytagnkelpdgpigaa
