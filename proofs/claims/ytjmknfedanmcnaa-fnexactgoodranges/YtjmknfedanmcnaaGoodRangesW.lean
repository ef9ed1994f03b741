/-
  The law on GoodRanges, walked.
-/
import Derived.Test.YtjmknfedanmcnaaGoodRangesG
import Derived.Test.YtjmknfedanmcnaaRga
import Derived.Test.YtjmknfedanmcnaaGoodRangesI
namespace Go.Proofs.Ytjmknfedanmcnaa.fnExactGoodRanges
open Go.ChangeShapes Go.WideShapes Go.ChangeAt Go.RowKit Rc
set_option linter.unusedVariables false

theorem walk (a : Option Addr) (c : Nat) (L : List RangeD) (m : L.length ≤ maxLen) (k : L.length ≤ c) (o : rgO L) (w : World) (h : Rd rangeK w a L) :
    Calls Try.prog 3 #[.slice a L.length c] w fun e w' => e = .returned (.bool true) ∧ Below w.heap.size w w' :=
  goodRanges_given L (grB L) w a c m h (fun hm W a c h => specGRo a c L W hm o h) (fun hm W a c h => implGR L hm o W a c h)
end Go.Proofs.Ytjmknfedanmcnaa.fnExactGoodRanges
