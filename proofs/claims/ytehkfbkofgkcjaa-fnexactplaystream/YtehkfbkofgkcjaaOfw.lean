/-
  impl.Outflow: the laws' copies of it, what it weighs, how it is held against another.
-/
import Derived.Test.YtehkfbkofgkcjaaRcs
import Derived.Deep.QuietTactic
import Derived.Deep.RegionWith
import Derived.BigQuiet
namespace Go.Proofs.Ytehkfbkofgkcjaa.Rc
open Go.ChangeShapes Go.WideShapes Go.ChangeAt Go.RowKit Go.Deep
set_option linter.unusedVariables false
set_option maxRecDepth 100000

/-- what goes out: limit, sent, data, ended -/
structure OutflowD where
  f0 : Int
  f1 : Int
  f2 : ByteArray
  f3 : Bool
abbrev outflowC (D : OutflowD) : List Value := [.int .i64 D.f0, .int .i64 D.f1, .string D.f2, .bool D.f3]
abbrev outflowV (D : OutflowD) : Value := .agg #[.int .i64 D.f0, .int .i64 D.f1, .string D.f2, .bool D.f3]
set_option maxHeartbeats 1000000 in
theorem szOutflow_any (D : OutflowD) (w : World) (hs : D.f2.size ≤ maxLen) : Calls Try.prog 14 #[outflowV D, .int .i64 1048576] w fun e w' => (D.f2.size ≤ 1048576 ∧ e = .returned (.int .i64 ((1048576 - D.f2.size : Nat) : Int)) ∨ 1048576 < D.f2.size ∧ e = .returned (.int .i64 (-1))) ∧ Below w.heap.size w w' := by
  have B0 := hide ((Below.refl w.heap.size w).alloc (Nat.le_refl _) (.cells (outflowC D).toArray 31))
  unfold maxLen at *
  obtain ⟨f0, f1, f2, f3⟩ := D
  dsimp only at *
  have w2 : IntKind.i64.wrap ((1048576 : Int) - (f2.size : Int)) = (1048576 : Int) - (f2.size : Int) := by rw [IntKind.wrap_i64]; omega
  by_cases h2 : (1048576 : Int) - (f2.size : Int) < 0
  · go_enter Try.func14, Try.ntmps14
    go_wp2
    go_ret
    exact ⟨Or.inr ⟨by omega, rfl⟩, unhide B0⟩
  · go_enter Try.func14, Try.ntmps14
    go_wp2
    go_ret
    refine ⟨Or.inl ⟨by omega, ?_⟩, unhide B0⟩
    rw [show ((1048576 - f2.size : Nat) : Int) = (1048576 : Int) - (f2.size : Int) by omega]
    rfl
set_option maxHeartbeats 2000000 in
theorem toOutflow_any (D : OutflowD) (w : World) : Calls Try.prog 16 #[outflowV D] w fun e w' => e = .returned (outflowV D) ∧ Below w.heap.size w w' := by
  go_enter Try.func16, Try.ntmps16
  go_wp2
  refine bodyPost_ret (v := outflowV D) (by simp [results, Try.results16, go_sem]) rfl ⟨rfl, ?_⟩
  repeat (refine Below.setCell ?_ (by simp) _)
  exact (((Below.refl _ _).alloc (Nat.le_refl _) _).alloc (by simp) _).alloc (by simp; omega) _
set_option maxHeartbeats 2000000 in
theorem eqOutflow_same (D : OutflowD) (w : World) : Calls Try.prog 20 #[outflowV D, outflowV D] w fun e w' => e = .returned (.bool true) ∧ Below w.heap.size w w' := by
  go_enter Try.func20, Try.ntmps20
  go_wp2
  go_ret
  exact ⟨rfl, ((Below.refl _ _).alloc (Nat.le_refl _) _).alloc (by simp) _⟩
end Go.Proofs.Ytehkfbkofgkcjaa.Rc
