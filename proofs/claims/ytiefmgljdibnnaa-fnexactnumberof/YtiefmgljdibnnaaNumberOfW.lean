/-
  The law on NumberOf, walked.
-/
import Derived.Test.YtiefmgljdibnnaaL6p
namespace Go.Proofs.Ytiefmgljdibnnaa.fnExactNumberOf
open Go.ChangeShapes Go.WideShapes Go.ChangeAt Go.RowKit
set_option linter.unusedVariables false

theorem walk_same (a0 : Int) (a1 : Int) (a2 : Int) (t0 : Int) (b : Bool)  (w : World)
    (HS : ∀ W, Calls Try.prog 8 #[.int .i64 a0, .int .i64 a1, .int .i64 a2] W fun e w' => e = .returned (.tuple #[.int .i64 t0, .bool b]) ∧ Below W.heap.size W w')
    (HI : ∀ W, Calls Try.prog 9 #[.int .i64 a0, .int .i64 a1, .int .i64 a2] W fun e w' => e = .returned (.tuple #[.int .i64 t0, .bool b]) ∧ Below W.heap.size W w') :
    Calls Try.prog 4 #[.int .i64 a0, .int .i64 a1, .int .i64 a2] w fun e w' => e = .returned (.bool true) ∧ Below w.heap.size w w' := by
  have H1 := hide HS
  have H2 := hide HI
  clear HS HI
  go_enter Try.func4, Try.ntmps4
  go_wp2_with (first | (go_at_call 8; refine (unhide H1 _).mono ?_; rintro e w1 ⟨rfl, b1⟩) | (go_at_call 9; refine (unhide H2 _).mono ?_; rintro e w2 ⟨rfl, b2⟩))
  go_ret
  exact ⟨rfl, b1.trans (b2.mono b1.size)⟩
theorem walk (a0 : Int) (k0 : (Lit.int .i64 a0).wf = true) (a1 : Int) (k1 : (Lit.int .i64 a1).wf = true) (a2 : Int) (k2 : (Lit.int .i64 a2).wf = true) (w : World) :
    Calls Try.prog 4 #[.int .i64 a0, .int .i64 a1, .int .i64 a2] w fun e w' => e = .returned (.bool true) ∧ Below w.heap.size w w' := by
  by_cases h : 1 ≤ a2 ∧ a2 ≤ 4 ∧ -1 ≤ a0 ∧ a0 < 4611686018427387903 ∧ 0 ≤ a1 ∧ a1 < ((256 ^ a2.toNat : Nat) : Int)
  · exact walk_same a0 a1 a2 _ true  w (specNO_ok a0 a1 a2 h) (implNO_ok a0 a1 a2 h)
  · exact walk_same a0 a1 a2 _ false  w (specNO_no a0 a1 a2 h  k0 k1 k2) (implNO_no a0 a1 a2 h  k0 k1 k2)
end Go.Proofs.Ytiefmgljdibnnaa.fnExactNumberOf
