/-
  The law on InverseGf, walked.
-/
import Derived.Test.YtlfffglkpijjdaaGiv
namespace Go.Proofs.Ytlfffglkpijjdaa.fnExactInverseGf
open Go.ChangeShapes Go.WideShapes Go.ChangeAt Go.RowKit
set_option linter.unusedVariables false

theorem specSide (a : Int) (m : Nat) (hm : a % 256 = m) (w : World) :
    Calls Try.prog 11 #[.int .i64 a] w fun e w' => e = .returned (.int .i64 ((inv m : Nat) : Int)) ∧ w' = w := by
  have h1 : m < 256 := by omega
  have hl := inv_lt m h1
  have H0 := hide (fun W => specInv m h1 W)
  generalize inv m = r at *
  go_enter Try.func11, Try.ntmps11
  go_wp2_with (first | (go_at_call 23; with_reducible refine (unhide H0 _).mono ?_; rintro e w1 ⟨rfl, rfl⟩))
  go_ret
  exact ⟨rfl, rfl⟩
theorem implSide (a : Int) (m : Nat) (hm : a % 256 = m) (w : World) :
    Calls Try.prog 12 #[.int .i64 a] w fun e w' => e = .returned (.int .i64 ((inv m : Nat) : Int)) ∧ w' = w := by
  have h1 : m < 256 := by omega
  have hl := inv_lt m h1
  have H0 := hide (fun W => implInv m h1 W)
  generalize inv m = r at *
  go_enter Try.func12, Try.ntmps12
  go_wp2_with (first | (go_at_call 24; with_reducible refine (unhide H0 _).mono ?_; rintro e w1 ⟨rfl, rfl⟩))
  go_ret
  exact ⟨rfl, rfl⟩
theorem walk (a : Int) (w0 : (Lit.int .i64 a).wf = true) (w : World) :
    Calls Try.prog 4 #[.int .i64 a] w fun e w' => e = .returned (.bool true) ∧ Below w.heap.size w w' := by
  obtain ⟨m, hm⟩ := Int.eq_ofNat_of_zero_le (show 0 ≤ a % 256 by omega)
  have H1 := hide (fun W => specSide a m hm W)
  have H2 := hide (fun W => implSide a m hm W)
  clear hm
  generalize inv m = r at *
  go_enter Try.func4, Try.ntmps4
  go_wp2_with (first | (go_at_call 11; with_reducible refine (unhide H1 _).mono ?_; rintro e w1 ⟨rfl, rfl⟩) | (go_at_call 12; with_reducible refine (unhide H2 _).mono ?_; rintro e w1 ⟨rfl, rfl⟩))
  go_ret
  exact ⟨rfl, Below.refl _ _⟩
end Go.Proofs.Ytlfffglkpijjdaa.fnExactInverseGf
