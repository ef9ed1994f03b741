/-
  The law on PlayStream, walked.
-/
import Derived.Test.YtehkfbkofgkcjaaPlayStreamG
namespace Go.Proofs.Ytehkfbkofgkcjaa.fnExactPlayStream
open Go.ChangeShapes Go.WideShapes Go.ChangeAt Go.RowKit Rc
set_option linter.unusedVariables false

theorem walk (d : ByteArray) (hm1 : d.size ≤ maxLen) (n : Int) (wn : (Lit.int .i64 n).wf = true) (a2 : Option Addr) (c2 : Nat) (A2 : List Int) (hm2 : A2.length ≤ maxLen) (_ : True) (hv2 : bvI A2) (a3 : Option Addr) (c3 : Nat) (A3 : List Int) (hm3 : A3.length ≤ maxLen) (_ : True) (hv3 : bvI A3) (w : World) (h2 : Rd intK w a2 A2) (h3 : Rd intK w a3 A3) :
    Calls Try.prog 6 #[.string d, .int .i64 n, .slice a2 A2.length c2, .slice a3 A3.length c3] w fun e w' => e = .returned (.bool true) ∧ Below w.heap.size w w' :=
  playStream_given d n A2 A3 hv2 hv3 (psO d n A2 A3) (psD d n A2 A3) (psB d n A2 A3) w
    (fun q1 q2 q3 W a c a' c' h h' => specPS d n A2 A3 W (by omega) q2 q3 a c a' c' h h')
    (fun q1 q2 q3 W a c a' c' h h' => implPlS d n A2 A3 W (by omega) q2 q3 a c a' c' h h') hm1 hm2 hm3 a2 c2 a3 c3 h2 h3
end Go.Proofs.Ytehkfbkofgkcjaa.fnExactPlayStream
