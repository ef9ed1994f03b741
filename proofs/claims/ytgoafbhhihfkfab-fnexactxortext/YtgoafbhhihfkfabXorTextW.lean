/-
  The law on XorText, walked.
-/
import Derived.Test.YtgoafbhhihfkfabXot
namespace Go.Proofs.Ytgoafbhhihfkfab.fnExactXorText
open Go.ChangeShapes Go.WideShapes Go.ChangeAt Go.RowKit
set_option linter.unusedVariables false

theorem walk_same (a0 : ByteArray) (a1 : ByteArray) (t0 : ByteArray) (b : Bool) (l0 : a0.size ≤ 1048576) (l1 : a1.size ≤ 1048576) (w : World)
    (HS : ∀ W, Calls Try.prog 10 #[.string a0, .string a1] W fun e w' => e = .returned (.tuple #[.string t0, .bool b]) ∧ Below W.heap.size W w')
    (HI : ∀ W, Calls Try.prog 11 #[.string a0, .string a1] W fun e w' => e = .returned (.tuple #[.string t0, .bool b]) ∧ Below W.heap.size W w') :
    Calls Try.prog 5 #[.string a0, .string a1] w fun e w' => e = .returned (.bool true) ∧ Below w.heap.size w w' := by
  have H1 := hide HS
  have H2 := hide HI
  clear HS HI
  have h0 : ¬ (1048576 : Int) < a0.size := by omega
  have h1 : ¬ (1048576 : Int) < a1.size := by omega
  go_enter Try.func5, Try.ntmps5
  go_wp2_with (first | (go_at_call 10; refine (unhide H1 _).mono ?_; rintro e w1 ⟨rfl, b1⟩) | (go_at_call 11; refine (unhide H2 _).mono ?_; rintro e w2 ⟨rfl, b2⟩))
  go_ret
  exact ⟨rfl, b1.trans (b2.mono b1.size)⟩
theorem walk (a0 : ByteArray) (k0 : a0.size ≤ maxLen) (a1 : ByteArray) (k1 : a1.size ≤ maxLen) (w : World) :
    Calls Try.prog 5 #[.string a0, .string a1] w fun e w' => e = .returned (.bool true) ∧ Below w.heap.size w w' := by
  unfold maxLen at k0
  unfold maxLen at k1
  by_cases l0 : (1048576 : Int) < a0.size
  · go_enter Try.func5, Try.ntmps5
    go_wp2
    go_ret
    exact ⟨rfl, Below.refl _ _⟩
  by_cases l1 : (1048576 : Int) < a1.size
  · go_enter Try.func5, Try.ntmps5
    go_wp2
    go_ret
    exact ⟨rfl, Below.refl _ _⟩
  by_cases h : a0.size = a1.size
  · exact walk_same a0 a1 _ true (by omega) (by omega) w (specXT_ok a0 a1 h (by omega)) (implXT_ok a0 a1 h (by omega))
  · exact walk_same a0 a1 _ false (by omega) (by omega) w (specXT_no a0 a1 h (by omega) (by omega)) (implXT_no a0 a1 h (by omega) (by omega))
end Go.Proofs.Ytgoafbhhihfkfab.fnExactXorText
