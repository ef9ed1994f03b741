/-
  Capsules: their bytes (pure).
-/
import Derived.Test.YtgieglpjkjncfabDoorFix
import Derived.Test.YtgieglpjkjncfabDoorCp0
namespace Go.Proofs.YtgieglpjkjncfabDoor.Rc
set_option linter.unusedVariables false
set_option maxRecDepth 100000

/-- their bytes -/
def cbC (D : CapsuleD) : List UInt8 := vb D.f0 ++ (vb D.f1.size ++ D.f1.data.toList)
def cbL (L : List CapsuleD) : List UInt8 := L.flatMap cbC
end Go.Proofs.YtgieglpjkjncfabDoor.Rc
