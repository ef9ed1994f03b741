/-
  The law on HalfBlock, walked.
-/
import Derived.Test.YtooojkedphlknaaHfc
namespace Go.Proofs.Ytooojkedphlknaa.fnExactHalfBlock
open Go.ChangeShapes Go.WideShapes Go.ChangeAt Go.RowKit
set_option linter.unusedVariables false

theorem walk_same (a0 : ByteArray) (a1 : Int) (a2 : Int) (t0 : ByteArray) (b : Bool) (l0 : a0.size ≤ 1048576) (w : World)
    (HS : ∀ W, Calls Try.prog 12 #[.string a0, .int .i64 a1, .int .i64 a2] W fun e w' => e = .returned (.tuple #[.string t0, .bool b]) ∧ Below W.heap.size W w')
    (HI : ∀ W, Calls Try.prog 13 #[.string a0, .int .i64 a1, .int .i64 a2] W fun e w' => e = .returned (.tuple #[.string t0, .bool b]) ∧ Below W.heap.size W w') :
    Calls Try.prog 5 #[.string a0, .int .i64 a1, .int .i64 a2] w fun e w' => e = .returned (.bool true) ∧ Below w.heap.size w w' := by
  have H1 := hide HS
  have H2 := hide HI
  clear HS HI
  have h0 : ¬ (1048576 : Int) < a0.size := by omega
  go_enter Try.func5, Try.ntmps5
  go_wp2_with (first | (go_at_call 12; refine (unhide H1 _).mono ?_; rintro e w1 ⟨rfl, b1⟩) | (go_at_call 13; refine (unhide H2 _).mono ?_; rintro e w2 ⟨rfl, b2⟩))
  go_ret
  exact ⟨rfl, b1.trans (b2.mono b1.size)⟩
theorem walk (a0 : ByteArray) (k0 : a0.size ≤ maxLen) (a1 : Int) (k1 : (Lit.int .i64 a1).wf = true) (a2 : Int) (k2 : (Lit.int .i64 a2).wf = true) (w : World) :
    Calls Try.prog 5 #[.string a0, .int .i64 a1, .int .i64 a2] w fun e w' => e = .returned (.bool true) ∧ Below w.heap.size w w' := by
  unfold maxLen at k0
  by_cases l0 : (1048576 : Int) < a0.size
  · go_enter Try.func5, Try.ntmps5
    go_wp2
    go_ret
    exact ⟨rfl, Below.refl _ _⟩
  by_cases h : a0.size ≤ 10 ∧ 5 ≤ a1 ∧ a1 ≤ 19 ∧ 1 ≤ a2 ∧ a2 ≤ 4
  · exact walk_same a0 a1 a2 _ true (by omega) w (specHB_ok a0 a1 a2 h) (implHB_ok a0 a1 a2 h)
  · exact walk_same a0 a1 a2 _ false (by omega) w (specHB_no a0 a1 a2 h (by omega) k1 k2) (implHB_no a0 a1 a2 h (by omega) k1 k2)
end Go.Proofs.Ytooojkedphlknaa.fnExactHalfBlock
