/-
  The law on CoverOf, walked.
-/
import Derived.Test.YtfbecgclgffkiaaE6c
namespace Go.Proofs.Ytfbecgclgffkiaa.fnExactCoverOf
open Go.ChangeShapes Go.WideShapes Go.ChangeAt Go.RowKit
set_option linter.unusedVariables false

theorem walk_same (a0 : ByteArray) (a1 : ByteArray) (t0 : ByteArray) (b : Bool) (l0 : a0.size ≤ 1048576) (l1 : a1.size ≤ 1048576) (w : World)
    (HS : ∀ W, Calls Try.prog 7 #[.string a0, .string a1] W fun e w' => e = .returned (.tuple #[.string t0, .bool b]) ∧ Below W.heap.size W w')
    (HI : ∀ W, Calls Try.prog 8 #[.string a0, .string a1] W fun e w' => e = .returned (.tuple #[.string t0, .bool b]) ∧ Below W.heap.size W w') :
    Calls Try.prog 4 #[.string a0, .string a1] w fun e w' => e = .returned (.bool true) ∧ Below w.heap.size w w' := by
  have H1 := hide HS
  have H2 := hide HI
  clear HS HI
  have h0 : ¬ (1048576 : Int) < a0.size := by omega
  have h1 : ¬ (1048576 : Int) < a1.size := by omega
  go_enter Try.func4, Try.ntmps4
  go_wp2_with (first | (go_at_call 7; refine (unhide H1 _).mono ?_; rintro e w1 ⟨rfl, b1⟩) | (go_at_call 8; refine (unhide H2 _).mono ?_; rintro e w2 ⟨rfl, b2⟩))
  go_ret
  exact ⟨rfl, b1.trans (b2.mono b1.size)⟩
theorem walk (a0 : ByteArray) (k0 : a0.size ≤ maxLen) (a1 : ByteArray) (k1 : a1.size ≤ maxLen) (w : World) :
    Calls Try.prog 4 #[.string a0, .string a1] w fun e w' => e = .returned (.bool true) ∧ Below w.heap.size w w' := by
  unfold maxLen at k0
  unfold maxLen at k1
  by_cases l0 : (1048576 : Int) < a0.size
  · go_enter Try.func4, Try.ntmps4
    go_wp2
    go_ret
    exact ⟨rfl, Below.refl _ _⟩
  by_cases l1 : (1048576 : Int) < a1.size
  · go_enter Try.func4, Try.ntmps4
    go_wp2
    go_ret
    exact ⟨rfl, Below.refl _ _⟩
  by_cases h : a0.size = 16 ∧ a1.size = 16
  · exact walk_same a0 a1 _ true (by omega) (by omega) w (specCV_ok a0 a1 h) (implCV_ok a0 a1 h)
  · exact walk_same a0 a1 _ false (by omega) (by omega) w (specCV_no a0 a1 h (by omega) (by omega)) (implCV_no a0 a1 h (by omega) (by omega))
end Go.Proofs.Ytfbecgclgffkiaa.fnExactCoverOf
