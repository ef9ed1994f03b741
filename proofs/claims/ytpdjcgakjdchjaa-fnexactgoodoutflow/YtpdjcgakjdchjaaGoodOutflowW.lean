/-
  The law on GoodOutflow, walked.
-/
import Derived.Test.YtpdjcgakjdchjaaGoodOutflowG
namespace Go.Proofs.Ytpdjcgakjdchjaa.fnExactGoodOutflow
open Go.ChangeShapes Go.WideShapes Go.ChangeAt Go.RowKit Rc
set_option linter.unusedVariables false

theorem walk (D : OutflowD) (o : okOutflow D) (w : World) : Calls Try.prog 4 #[outflowV D] w fun e w' => e = .returned (.bool true) ∧ Below w.heap.size w w' := goodOutflow_walk D o.2.2 w
end Go.Proofs.Ytpdjcgakjdchjaa.fnExactGoodOutflow
