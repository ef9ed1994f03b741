/-
  Capsules: their bytes (pure).
-/
import Derived.Test.YtgieglpjkjncfaaDoorFix
import Derived.Test.YtgieglpjkjncfaaDoorCp0
namespace Go.Proofs.YtgieglpjkjncfaaDoor.Rc
set_option linter.unusedVariables false
set_option maxRecDepth 100000

/-- their bytes -/
def cbC (D : CapsuleD) : List UInt8 := vb D.f0 ++ (vb D.f1.size ++ D.f1.data.toList)
def cbL (L : List CapsuleD) : List UInt8 := L.flatMap cbC
end Go.Proofs.YtgieglpjkjncfaaDoor.Rc
