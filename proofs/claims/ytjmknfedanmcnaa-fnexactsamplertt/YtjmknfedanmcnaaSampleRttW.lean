/-
  The law on SampleRtt, walked.
-/
import Derived.Test.YtjmknfedanmcnaaSampleRttG
import Derived.Test.YtjmknfedanmcnaaOpRtt
import Derived.Test.YtjmknfedanmcnaaSampleRttI
namespace Go.Proofs.Ytjmknfedanmcnaa.fnExactSampleRtt
open Go.ChangeShapes Go.WideShapes Go.ChangeAt Go.RowKit Rc
set_option linter.unusedVariables false

theorem walk (D : RttD) (o : okRtt D) (la : Int) (w1 : (Lit.int .i64 la).wf = true) (de : Int) (w2 : (Lit.int .i64 de).wf = true) (w : World) :
    Calls Try.prog 6 #[rttV D, .int .i64 la, .int .i64 de] w fun e w' => e = .returned (.bool true) ∧ Below w.heap.size w w' :=
  sampleRtt_given D la de w (implSR D la de o (bounds_i64 w1) (bounds_i64 w2))
end Go.Proofs.Ytjmknfedanmcnaa.fnExactSampleRtt
