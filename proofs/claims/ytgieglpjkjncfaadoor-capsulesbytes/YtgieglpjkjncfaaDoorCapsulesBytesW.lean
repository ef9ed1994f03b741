/-
  The law on CapsulesBytes, walked.
-/
import Derived.Test.YtgieglpjkjncfaaDoorCapsulesBytesG
import Derived.Test.YtgieglpjkjncfaaDoorOpCapsule
namespace Go.Proofs.YtgieglpjkjncfaaDoor.fnExactCapsulesBytes
open Go.ChangeShapes Go.WideShapes Go.ChangeAt Go.RowKit Rc
set_option linter.unusedVariables false

theorem walk (a : Option Addr) (c : Nat) (L : List CapsuleD) (m : L.length ≤ maxLen) (k : L.length ≤ c) (o : ∀ i, i < L.length → okCapsule (gt capsuleK L i)) (w : World) (h : Rd capsuleK w a L) (hS : Tz w) :
    Calls Tryd.prog 3 #[.slice a L.length c] w fun e w' => e = .returned (.bool true) ∧ Below w.heap.size w w' :=
  capsulesBytes_given L (cbR L) (gdL L) w a c m (fun i hi => (o i hi).2) h (fun hm ho W a c h => specCB L a c W hm ho h) (fun hm ho W a c h b => implCB L a c W (hS.kept b (tz_low hS)) hm ho h)
end Go.Proofs.YtgieglpjkjncfaaDoor.fnExactCapsulesBytes
