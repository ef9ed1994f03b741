/-
  The law on RetryTag, walked.
-/
import Derived.Test.YtomkoakkgoknjaaL6fX
namespace Go.Proofs.Ytomkoakkgoknjaa.fnExactRetryTag
open Go.ChangeShapes Go.WideShapes Go.ChangeAt Go.RowKit
set_option linter.unusedVariables false

theorem walk_same (a0 : ByteArray) (a1 : ByteArray) (t0 : ByteArray) (b : Bool) (l0 : a0.size ≤ 1048576) (l1 : a1.size ≤ 1048576) (w : World)
    (HS : ∀ W, Calls Try.prog 9 #[.string a0, .string a1] W fun e w' => e = .returned (.tuple #[.string t0, .bool b]) ∧ Below W.heap.size W w')
    (HI : ∀ W, Calls Try.prog 10 #[.string a0, .string a1] W fun e w' => e = .returned (.tuple #[.string t0, .bool b]) ∧ Below W.heap.size W w') :
    Calls Try.prog 4 #[.string a0, .string a1] w fun e w' => e = .returned (.bool true) ∧ Below w.heap.size w w' := by
  have H1 := hide HS
  have H2 := hide HI
  clear HS HI
  have h0 : ¬ (1048576 : Int) < a0.size := by omega
  have h1 : ¬ (1048576 : Int) < a1.size := by omega
  go_enter Try.func4, Try.ntmps4
  go_wp2_with (first | (go_at_call 9; refine (unhide H1 _).mono ?_; rintro e w1 ⟨rfl, b1⟩) | (go_at_call 10; refine (unhide H2 _).mono ?_; rintro e w2 ⟨rfl, b2⟩))
  go_ret
  exact ⟨rfl, b1.trans (b2.mono b1.size)⟩
theorem walk (a0 : ByteArray) (k0 : a0.size ≤ maxLen) (a1 : ByteArray) (k1 : a1.size ≤ maxLen) (w : World) :
    Calls Try.prog 4 #[.string a0, .string a1] w fun e w' => e = .returned (.bool true) ∧ Below w.heap.size w w' := by
  unfold maxLen at k0 k1
  by_cases l0 : (1048576 : Int) < a0.size
  · go_enter Try.func4, Try.ntmps4
    go_wp2
    go_ret
    exact ⟨rfl, Below.refl _ _⟩
  by_cases l1 : (1048576 : Int) < a1.size
  · go_enter Try.func4, Try.ntmps4
    go_wp2
    go_ret
    exact ⟨rfl, Below.refl _ _⟩
  by_cases h : a0.size ≤ 20 ∧ a1.size ≤ 1000
  · exact walk_same a0 a1 _ true (by omega) (by omega) w (specRT_ok a0 a1 h.1 h.2) (implRT_ok a0 a1 h.1 h.2)
  · exact walk_same a0 a1 _ false (by omega) (by omega) w (specRT_no a0 a1 h (by omega) (by omega)) (implRT_no a0 a1 h (by omega) (by omega))
end Go.Proofs.Ytomkoakkgoknjaa.fnExactRetryTag
