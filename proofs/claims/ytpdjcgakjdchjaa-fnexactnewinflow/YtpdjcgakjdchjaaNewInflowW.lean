/-
  The law on NewInflow, walked.
-/
import Derived.Test.YtpdjcgakjdchjaaNewInflowG
namespace Go.Proofs.Ytpdjcgakjdchjaa.fnExactNewInflow
open Go.ChangeShapes Go.WideShapes Go.ChangeAt Go.RowKit Rc
set_option linter.unusedVariables false

theorem walk (n : Int) (_wn : (Lit.int .i64 n).wf = true) (w : World) : Calls Try.prog 3 #[.int .i64 n] w fun e w' => e = .returned (.bool true) ∧ Below w.heap.size w w' := newInflow_walk n w
end Go.Proofs.Ytpdjcgakjdchjaa.fnExactNewInflow
