/-
  The law on GoodCarried, walked.
-/
import Derived.Test.YtgieglpjkjncfaaGoodCarriedG
namespace Go.Proofs.Ytgieglpjkjncfaa.fnExactGoodCarried
open Go.ChangeShapes Go.WideShapes Go.ChangeAt Go.RowKit Rc
set_option linter.unusedVariables false

theorem walk (D : CarriedD) (o : okCarried D) (w : World) : Calls Try.prog 5 #[carriedV D] w fun e w' => e = .returned (.bool true) ∧ Below w.heap.size w w' := goodCarried_walk D o.2.2 w
end Go.Proofs.Ytgieglpjkjncfaa.fnExactGoodCarried
