/-
  The law on NumberBytes, walked.
-/
import Derived.Test.YtiefmgljdibnnaaL6n
namespace Go.Proofs.Ytiefmgljdibnnaa.fnExactNumberBytes
open Go.ChangeShapes Go.WideShapes Go.ChangeAt Go.RowKit
set_option linter.unusedVariables false

theorem walk_same (a0 : Int) (a1 : Int) (t0 : ByteArray) (b : Bool)  (w : World)
    (HS : ∀ W, Calls Try.prog 6 #[.int .i64 a0, .int .i64 a1] W fun e w' => e = .returned (.tuple #[.string t0, .bool b]) ∧ Below W.heap.size W w')
    (HI : ∀ W, Calls Try.prog 7 #[.int .i64 a0, .int .i64 a1] W fun e w' => e = .returned (.tuple #[.string t0, .bool b]) ∧ Below W.heap.size W w') :
    Calls Try.prog 3 #[.int .i64 a0, .int .i64 a1] w fun e w' => e = .returned (.bool true) ∧ Below w.heap.size w w' := by
  have H1 := hide HS
  have H2 := hide HI
  clear HS HI
  go_enter Try.func3, Try.ntmps3
  go_wp2_with (first | (go_at_call 6; refine (unhide H1 _).mono ?_; rintro e w1 ⟨rfl, b1⟩) | (go_at_call 7; refine (unhide H2 _).mono ?_; rintro e w2 ⟨rfl, b2⟩))
  go_ret
  exact ⟨rfl, b1.trans (b2.mono b1.size)⟩
theorem walk (a0 : Int) (k0 : (Lit.int .i64 a0).wf = true) (a1 : Int) (k1 : (Lit.int .i64 a1).wf = true) (w : World) :
    Calls Try.prog 3 #[.int .i64 a0, .int .i64 a1] w fun e w' => e = .returned (.bool true) ∧ Below w.heap.size w w' := by
  by_cases h : 0 ≤ a0 ∧ a0 ≤ 4611686018427387903 ∧ -1 ≤ a1 ∧ a1 < a0 ∧ ¬ szF (a0 - a1) = 0
  · exact walk_same a0 a1 _ true  w (specNB_ok a0 a1 h) (implNB_ok a0 a1 h)
  · exact walk_same a0 a1 _ false  w (specNB_no a0 a1 h  k0 k1) (implNB_no a0 a1 h  k0 k1)
end Go.Proofs.Ytiefmgljdibnnaa.fnExactNumberBytes
