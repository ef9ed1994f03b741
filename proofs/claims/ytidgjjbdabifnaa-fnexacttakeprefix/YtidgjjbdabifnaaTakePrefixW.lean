/-
  The law on TakePrefix, walked.
-/
import Derived.Test.YtidgjjbdabifnaaTakePrefixG
namespace Go.Proofs.Ytidgjjbdabifnaa.fnExactTakePrefix
open Go.ChangeShapes Go.WideShapes Go.ChangeAt Go.RowKit Rc
set_option linter.unusedVariables false

theorem walk (s : ByteArray) (w0 : s.size ≤ maxLen) (b : Int) (w1 : (Lit.int .i64 b).wf = true) (w : World) :
    Calls Try.prog 4 #[.string s, .int .i64 b] w fun e w' => e = .returned (.bool true) ∧ Below w.heap.size w w' :=
  takePrefix_given s b (tpA s b).1 (tpA s b).2.1 (tpA s b).2.2 w (fun W => specTP s b W w0) (fun W => implTPx s b W w0)
end Go.Proofs.Ytidgjjbdabifnaa.fnExactTakePrefix
