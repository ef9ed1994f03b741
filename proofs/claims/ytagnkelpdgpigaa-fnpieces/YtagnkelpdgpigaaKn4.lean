/-
  A number that the model knows (out of Stv).
-/
import Derived.Test.YtagnkelpdgpigaaInb
namespace Go.Proofs.Ytagnkelpdgpigaa.Rc
open Go.ChangeShapes Go.WideShapes Go.ChangeAt Go.RowKit
set_option linter.unusedVariables false
set_option maxRecDepth 100000

theorem kn14 (n : Int) (w : World) : Calls Try.prog 26 #[.int .i64 n] w fun e w' => e = .returned (.bool (decide (0 ≤ n) && decide (n ≤ 4611686018427387903))) ∧ w' = w := by
  have H := hide (inB n 0 4611686018427387903)
  go_enter Try.func26, Try.ntmps26
  go_wp2_with fail
  refine (unhide H _).mono ?_
  rintro e w1 ⟨rfl, h9⟩
  rw [h9]
  clear h9 w1
  go_wp2
  go_ret
  exact ⟨rfl, rfl⟩
end Go.Proofs.Ytagnkelpdgpigaa.Rc
