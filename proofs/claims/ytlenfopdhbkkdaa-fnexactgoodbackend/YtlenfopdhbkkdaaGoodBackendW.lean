/-
  The law on GoodBackend, walked.
-/
import Derived.Test.YtlenfopdhbkkdaaBkd
namespace Go.Proofs.Ytlenfopdhbkkdaa.fnExactGoodBackend
open Go.ChangeShapes Go.WideShapes Go.ChangeAt Go.RowKit
set_option linter.unusedVariables false

theorem walk (a0 : ByteArray) (k0 : a0.size ≤ maxLen) (w : World) :
    Calls Try.prog 3 #[.string a0] w fun e w' => e = .returned (.bool true) ∧ Below w.heap.size w w' := by
  have H1 := hide (fun W => specGB a0 W k0)
  have H2 := hide (fun W => implGB a0 W k0)
  generalize bkB a0 = r at *
  unfold maxLen at k0
  by_cases l0 : (1048576 : Int) < a0.size
  · go_enter Try.func3, Try.ntmps3
    go_wp2
    go_ret
    exact ⟨rfl, Below.refl _ _⟩
  go_enter Try.func3, Try.ntmps3
  go_wp2_with fail
  refine (unhide H1 _).mono ?_
  rintro e w1 ⟨rfl, h1⟩
  subst w1
  go_wp2_with fail
  refine (unhide H2 _).mono ?_
  rintro e w2 ⟨rfl, h2⟩
  subst w2
  go_wp2
  go_ret
  exact ⟨rfl, Below.refl _ _⟩
end Go.Proofs.Ytlenfopdhbkkdaa.fnExactGoodBackend
