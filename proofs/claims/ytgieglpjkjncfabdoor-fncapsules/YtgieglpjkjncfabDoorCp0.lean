/-
  Capsules: which are good (pure).
-/
import Derived.Test.YtgieglpjkjncfabDoorRcCapsule
namespace Go.Proofs.YtgieglpjkjncfabDoor.Rc
set_option linter.unusedVariables false
set_option maxRecDepth 100000

/-- a number of 62 bits -/
def k62 (n : Int) : Bool := decide (0 ≤ n) && decide (n ≤ 4611686018427387903)
/-- a good capsule, a good row of them -/
def gdC (D : CapsuleD) : Bool := k62 D.f0 && decide (D.f1.size ≤ 200)
def gdL (L : List CapsuleD) : Bool := decide (L.length ≤ 30) && L.all gdC
end Go.Proofs.YtgieglpjkjncfabDoor.Rc
