/-
  The law on UnsubByte, walked.
-/
import Derived.Test.YtlfffglkpijjdaaGiv
namespace Go.Proofs.Ytlfffglkpijjdaa.fnExactUnsubByte
open Go.ChangeShapes Go.WideShapes Go.ChangeAt Go.RowKit
set_option linter.unusedVariables false

theorem specSide (a : Int) (m : Nat) (hm : a % 256 = m) (w : World) :
    Calls Try.prog 15 #[.int .i64 a] w fun e w' => e = .returned (.int .i64 ((back m : Nat) : Int)) ∧ w' = w := by
  have h1 : m < 256 := by omega
  have hl := back_lt m h1
  have H0 := hide (fun W => specUns m h1 W)
  generalize back m = r at *
  go_enter Try.func15, Try.ntmps15
  go_wp2_with (first | (go_at_call 27; with_reducible refine (unhide H0 _).mono ?_; rintro e w1 ⟨rfl, rfl⟩))
  go_ret
  exact ⟨rfl, rfl⟩
theorem implSide (a : Int) (m : Nat) (hm : a % 256 = m) (w : World) :
    Calls Try.prog 16 #[.int .i64 a] w fun e w' => e = .returned (.int .i64 ((back m : Nat) : Int)) ∧ w' = w := by
  have h1 : m < 256 := by omega
  have hl := back_lt m h1
  have H0 := hide (fun W => implUns m h1 W)
  have H1 := hide (fun W => implInv (uns m) (uns_lt m h1) W)
  change inv (uns m) < 256 at hl
  change Calls _ _ _ _ (fun e w' => e = .returned (.int .i64 ((inv (uns m) : Nat) : Int)) ∧ w' = w)
  generalize inv (uns m) = r at *
  generalize uns m = i at *
  go_enter Try.func16, Try.ntmps16
  go_wp2_with (first | (go_at_call 28; with_reducible refine (unhide H0 _).mono ?_; rintro e w1 ⟨rfl, rfl⟩) | (go_at_call 24; with_reducible refine (unhide H1 _).mono ?_; rintro e w1 ⟨rfl, rfl⟩))
  go_ret
  exact ⟨rfl, rfl⟩
theorem walk (a : Int) (w0 : (Lit.int .i64 a).wf = true) (w : World) :
    Calls Try.prog 6 #[.int .i64 a] w fun e w' => e = .returned (.bool true) ∧ Below w.heap.size w w' := by
  obtain ⟨m, hm⟩ := Int.eq_ofNat_of_zero_le (show 0 ≤ a % 256 by omega)
  have H1 := hide (fun W => specSide a m hm W)
  have H2 := hide (fun W => implSide a m hm W)
  clear hm
  generalize back m = r at *
  go_enter Try.func6, Try.ntmps6
  go_wp2_with (first | (go_at_call 15; with_reducible refine (unhide H1 _).mono ?_; rintro e w1 ⟨rfl, rfl⟩) | (go_at_call 16; with_reducible refine (unhide H2 _).mono ?_; rintro e w1 ⟨rfl, rfl⟩))
  go_ret
  exact ⟨rfl, Below.refl _ _⟩
end Go.Proofs.Ytlfffglkpijjdaa.fnExactUnsubByte
