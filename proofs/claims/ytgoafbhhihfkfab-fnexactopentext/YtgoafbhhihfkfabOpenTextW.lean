/-
  The law on OpenText, walked.
-/
import Derived.Test.YtgoafbhhihfkfabL5o
namespace Go.Proofs.Ytgoafbhhihfkfab.fnExactOpenText
open Go.ChangeShapes Go.WideShapes Go.ChangeAt Go.RowKit
set_option linter.unusedVariables false

theorem walk_same (a0 : ByteArray) (a1 : ByteArray) (a2 : ByteArray) (a3 : ByteArray) (t0 : ByteArray) (b : Bool) (l0 : a0.size ≤ 1048576) (l1 : a1.size ≤ 1048576) (l2 : a2.size ≤ 1048576) (l3 : a3.size ≤ 1048576) (w : World)
    (HS : ∀ W, Calls Try.prog 6 #[.string a0, .string a1, .string a2, .string a3] W fun e w' => e = .returned (.tuple #[.string t0, .bool b]) ∧ Below W.heap.size W w')
    (HI : ∀ W, Calls Try.prog 7 #[.string a0, .string a1, .string a2, .string a3] W fun e w' => e = .returned (.tuple #[.string t0, .bool b]) ∧ Below W.heap.size W w') :
    Calls Try.prog 3 #[.string a0, .string a1, .string a2, .string a3] w fun e w' => e = .returned (.bool true) ∧ Below w.heap.size w w' := by
  have H1 := hide HS
  have H2 := hide HI
  clear HS HI
  have h0 : ¬ (1048576 : Int) < a0.size := by omega
  have h1 : ¬ (1048576 : Int) < a1.size := by omega
  have h2 : ¬ (1048576 : Int) < a2.size := by omega
  have h3 : ¬ (1048576 : Int) < a3.size := by omega
  go_enter Try.func3, Try.ntmps3
  go_wp2_with (first | (go_at_call 6; refine (unhide H1 _).mono ?_; rintro e w1 ⟨rfl, b1⟩) | (go_at_call 7; refine (unhide H2 _).mono ?_; rintro e w2 ⟨rfl, b2⟩))
  go_ret
  exact ⟨rfl, b1.trans (b2.mono b1.size)⟩
theorem walk (a0 : ByteArray) (k0 : a0.size ≤ maxLen) (a1 : ByteArray) (k1 : a1.size ≤ maxLen) (a2 : ByteArray) (k2 : a2.size ≤ maxLen) (a3 : ByteArray) (k3 : a3.size ≤ maxLen) (w : World) :
    Calls Try.prog 3 #[.string a0, .string a1, .string a2, .string a3] w fun e w' => e = .returned (.bool true) ∧ Below w.heap.size w w' := by
  unfold maxLen at k0
  unfold maxLen at k1
  unfold maxLen at k2
  unfold maxLen at k3
  by_cases l0 : (1048576 : Int) < a0.size
  · go_enter Try.func3, Try.ntmps3
    go_wp2
    go_ret
    exact ⟨rfl, Below.refl _ _⟩
  by_cases l1 : (1048576 : Int) < a1.size
  · go_enter Try.func3, Try.ntmps3
    go_wp2
    go_ret
    exact ⟨rfl, Below.refl _ _⟩
  by_cases l2 : (1048576 : Int) < a2.size
  · go_enter Try.func3, Try.ntmps3
    go_wp2
    go_ret
    exact ⟨rfl, Below.refl _ _⟩
  by_cases l3 : (1048576 : Int) < a3.size
  · go_enter Try.func3, Try.ntmps3
    go_wp2
    go_ret
    exact ⟨rfl, Below.refl _ _⟩
  by_cases h : opH a0 a1 a2 a3
  · exact walk_same a0 a1 a2 a3 _ true (by omega) (by omega) (by omega) (by omega) w (specOT_ok a0 a1 a2 a3 h) (implOT_ok a0 a1 a2 a3 h)
  · exact walk_same a0 a1 a2 a3 _ false (by omega) (by omega) (by omega) (by omega) w (specOT_no a0 a1 a2 a3 h (by omega) (by omega) (by omega) (by omega)) (implOT_no a0 a1 a2 a3 h (by omega) (by omega) (by omega) (by omega))
end Go.Proofs.Ytgoafbhhihfkfab.fnExactOpenText
