/-
  The law on PrefixBytes, walked.
-/
import Derived.Test.YtidgjjbdabifnaaPrefixBytesG
namespace Go.Proofs.Ytidgjjbdabifnaa.fnExactPrefixBytes
open Go.ChangeShapes Go.WideShapes Go.ChangeAt Go.RowKit Rc
set_option linter.unusedVariables false

theorem walk (n : Int) (w0 : (Lit.int .i64 n).wf = true) (b : Int) (w1 : (Lit.int .i64 b).wf = true) (f : Int) (w2 : (Lit.int .i64 f).wf = true) (w : World) :
    Calls Try.prog 3 #[.int .i64 n, .int .i64 b, .int .i64 f] w fun e w' => e = .returned (.bool true) ∧ Below w.heap.size w w' :=
  prefixBytes_given n b f (pfR n b f) (pfG n b f) w (fun W => specPB n b f W) (fun W => implPB n b f W)
end Go.Proofs.Ytidgjjbdabifnaa.fnExactPrefixBytes
