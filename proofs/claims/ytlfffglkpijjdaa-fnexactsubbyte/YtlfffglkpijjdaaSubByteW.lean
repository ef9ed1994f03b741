/-
  The law on SubByte, walked.
-/
import Derived.Test.YtlfffglkpijjdaaGiv
namespace Go.Proofs.Ytlfffglkpijjdaa.fnExactSubByte
open Go.ChangeShapes Go.WideShapes Go.ChangeAt Go.RowKit
set_option linter.unusedVariables false

theorem specSide (a : Int) (m : Nat) (hm : a % 256 = m) (w : World) :
    Calls Try.prog 13 #[.int .i64 a] w fun e w' => e = .returned (.int .i64 ((sub m : Nat) : Int)) ∧ w' = w := by
  have h1 : m < 256 := by omega
  have hl := sub_lt m h1
  have H0 := hide (fun W => specSub m h1 W)
  generalize sub m = r at *
  go_enter Try.func13, Try.ntmps13
  go_wp2_with (first | (go_at_call 25; with_reducible refine (unhide H0 _).mono ?_; rintro e w1 ⟨rfl, rfl⟩))
  go_ret
  exact ⟨rfl, rfl⟩
theorem implSide (a : Int) (m : Nat) (hm : a % 256 = m) (w : World) :
    Calls Try.prog 14 #[.int .i64 a] w fun e w' => e = .returned (.int .i64 ((sub m : Nat) : Int)) ∧ w' = w := by
  have h1 : m < 256 := by omega
  have hl := sub_lt m h1
  have H0 := hide (fun W => implInv m h1 W)
  have H1 := hide (fun W => implSpr (inv m) (inv_lt m h1) W)
  change spr (inv m) < 256 at hl
  change Calls _ _ _ _ (fun e w' => e = .returned (.int .i64 ((spr (inv m) : Nat) : Int)) ∧ w' = w)
  generalize spr (inv m) = r at *
  generalize inv m = i at *
  go_enter Try.func14, Try.ntmps14
  go_wp2_with (first | (go_at_call 24; with_reducible refine (unhide H0 _).mono ?_; rintro e w1 ⟨rfl, rfl⟩) | (go_at_call 26; with_reducible refine (unhide H1 _).mono ?_; rintro e w1 ⟨rfl, rfl⟩))
  go_ret
  exact ⟨rfl, rfl⟩
theorem walk (a : Int) (w0 : (Lit.int .i64 a).wf = true) (w : World) :
    Calls Try.prog 5 #[.int .i64 a] w fun e w' => e = .returned (.bool true) ∧ Below w.heap.size w w' := by
  obtain ⟨m, hm⟩ := Int.eq_ofNat_of_zero_le (show 0 ≤ a % 256 by omega)
  have H1 := hide (fun W => specSide a m hm W)
  have H2 := hide (fun W => implSide a m hm W)
  clear hm
  generalize sub m = r at *
  go_enter Try.func5, Try.ntmps5
  go_wp2_with (first | (go_at_call 13; with_reducible refine (unhide H1 _).mono ?_; rintro e w1 ⟨rfl, rfl⟩) | (go_at_call 14; with_reducible refine (unhide H2 _).mono ?_; rintro e w1 ⟨rfl, rfl⟩))
  go_ret
  exact ⟨rfl, Below.refl _ _⟩
end Go.Proofs.Ytlfffglkpijjdaa.fnExactSubByte
