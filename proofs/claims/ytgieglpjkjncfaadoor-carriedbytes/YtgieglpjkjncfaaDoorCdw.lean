/-
  impl.Carried: the laws' copies of it, what it weighs, how it is held against another.
-/
import Derived.Test.YtgieglpjkjncfaaDoorRcs
import Derived.Deep.QuietTactic
import Derived.Deep.RegionWith
import Derived.BigQuiet
namespace Go.Proofs.YtgieglpjkjncfaaDoor.Rc
open Go.ChangeShapes Go.WideShapes Go.ChangeAt Go.RowKit Go.Deep
set_option linter.unusedVariables false
set_option maxRecDepth 100000

/-- what is carried: stream, context, data -/
structure CarriedD where
  f0 : Int
  f1 : Int
  f2 : ByteArray
abbrev carriedC (D : CarriedD) : List Value := [.int .i64 D.f0, .int .i64 D.f1, .string D.f2]
abbrev carriedV (D : CarriedD) : Value := .agg #[.int .i64 D.f0, .int .i64 D.f1, .string D.f2]
set_option maxHeartbeats 1000000 in
theorem szCarried_any (D : CarriedD) (w : World) (hs : D.f2.size ≤ maxLen) : Calls Tryd.prog 10 #[carriedV D, .int .i64 1048576] w fun e w' => (D.f2.size ≤ 1048576 ∧ e = .returned (.int .i64 ((1048576 - D.f2.size : Nat) : Int)) ∨ 1048576 < D.f2.size ∧ e = .returned (.int .i64 (-1))) ∧ Below w.heap.size w w' := by
  have B0 := hide ((Below.refl w.heap.size w).alloc (Nat.le_refl _) (.cells (carriedC D).toArray 31))
  unfold maxLen at *
  obtain ⟨f0, f1, f2⟩ := D
  dsimp only at *
  have w2 : IntKind.i64.wrap ((1048576 : Int) - (f2.size : Int)) = (1048576 : Int) - (f2.size : Int) := by rw [IntKind.wrap_i64]; omega
  by_cases h2 : (1048576 : Int) - (f2.size : Int) < 0
  · go_enter Tryd.func10, Tryd.ntmps10
    go_wp2
    go_ret
    exact ⟨Or.inr ⟨by omega, rfl⟩, unhide B0⟩
  · go_enter Tryd.func10, Tryd.ntmps10
    go_wp2
    go_ret
    refine ⟨Or.inl ⟨by omega, ?_⟩, unhide B0⟩
    rw [show ((1048576 - f2.size : Nat) : Int) = (1048576 : Int) - (f2.size : Int) by omega]
    rfl
set_option maxHeartbeats 2000000 in
theorem toCarried_any (D : CarriedD) (w : World) : Calls Tryd.prog 12 #[carriedV D] w fun e w' => e = .returned (carriedV D) ∧ Below w.heap.size w w' := by
  go_enter Tryd.func12, Tryd.ntmps12
  go_wp2
  refine bodyPost_ret (v := carriedV D) (by simp [results, Tryd.results12, go_sem]) rfl ⟨rfl, ?_⟩
  repeat (refine Below.setCell ?_ (by simp) _)
  exact (((Below.refl _ _).alloc (Nat.le_refl _) _).alloc (by simp) _).alloc (by simp; omega) _
end Go.Proofs.YtgieglpjkjncfaaDoor.Rc
