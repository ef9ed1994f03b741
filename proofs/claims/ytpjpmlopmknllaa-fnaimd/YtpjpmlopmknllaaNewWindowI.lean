/-
  Contract: NewWindow of the program.
-/
import Derived.Test.YtpjpmlopmknllaaWnd
namespace Go.Proofs.Ytpjpmlopmknllaa.Rc
open Go.ChangeShapes Go.WideShapes Go.ChangeAt Go.RowKit Go.Deep
set_option linter.unusedVariables false
set_option maxRecDepth 100000

theorem implNW (w : World) : Calls Try.prog 30 #[] w fun e w' => e = .returned (windowV nwD) ∧ Below w.heap.size w w' := by
  go_enter Try.func30, Try.ntmps30
  go_wp2
  refine bodyPost_ret (v := .agg #[.int .i64 12000, .int .i64 100000000, .int .i64 (-1), .int .i64 0]) (by simp [results, Try.results30, go_sem]) rfl ⟨rfl, ?_⟩
  exact (Below.refl w.heap.size w).alloc (Nat.le_refl _) _
end Go.Proofs.Ytpjpmlopmknllaa.Rc
