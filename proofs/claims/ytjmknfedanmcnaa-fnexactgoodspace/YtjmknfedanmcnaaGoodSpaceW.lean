/-
  The law on GoodSpace, walked.
-/
import Derived.Test.YtjmknfedanmcnaaGoodSpaceG
import Derived.Test.YtjmknfedanmcnaaOpSpace
import Derived.Test.YtjmknfedanmcnaaGoodSpaceI
namespace Go.Proofs.Ytjmknfedanmcnaa.fnExactGoodSpace
open Go.ChangeShapes Go.WideShapes Go.ChangeAt Go.RowKit Rc
set_option linter.unusedVariables false

theorem walk (D : SpaceD) (a : Option Addr) (c : Nat) (o : okSpace D) (w : World) (h : RdSpace w a D) :
    Calls Try.prog 7 #[spaceV D a c] w fun e w' => e = .returned (.bool true) ∧ Below w.heap.size w w' :=
  goodSpace_given D (gsB D) w a c o.2.1 h (fun hm W a c h => specGS D a c W hm h) (fun hm W a c h hc => implGS D hm W a c hc h)
end Go.Proofs.Ytjmknfedanmcnaa.fnExactGoodSpace
