/-
  The law on MulGf, walked.
-/
import Derived.Test.YtlfffglkpijjdaaGmu
namespace Go.Proofs.Ytlfffglkpijjdaa.fnExactMulGf
open Go.ChangeShapes Go.WideShapes Go.ChangeAt Go.RowKit
set_option linter.unusedVariables false

theorem specMulGf (a b : Int) (m n : Nat) (hm : a % 256 = m) (hn : b % 256 = n) (w : World) :
    Calls Try.prog 9 #[.int .i64 a, .int .i64 b] w fun e w' => e = .returned (.int .i64 (mul m n)) ∧ w' = w := by
  have h1 : m < 256 := by omega
  have h2 : n < 256 := by omega
  have hl := mul_lt m n h1
  have H := hide (fun W => specMul m n h1 h2 W)
  generalize mul m n = r at *
  go_enter Try.func9, Try.ntmps9
  go_wp2_with (go_at_call 21; with_reducible refine (unhide H _).mono ?_; rintro e w1 ⟨rfl, rfl⟩)
  go_ret
  exact ⟨rfl, rfl⟩
theorem implMulGf (a b : Int) (m n : Nat) (hm : a % 256 = m) (hn : b % 256 = n) (w : World) :
    Calls Try.prog 10 #[.int .i64 a, .int .i64 b] w fun e w' => e = .returned (.int .i64 (mul m n)) ∧ w' = w := by
  have h1 : m < 256 := by omega
  have h2 : n < 256 := by omega
  have hl := mul_lt m n h1
  have H := hide (fun W => implMul m n h1 h2 W)
  generalize mul m n = r at *
  go_enter Try.func10, Try.ntmps10
  go_wp2_with (go_at_call 22; with_reducible refine (unhide H _).mono ?_; rintro e w1 ⟨rfl, rfl⟩)
  go_ret
  exact ⟨rfl, rfl⟩
theorem walk (a : Int) (w0 : (Lit.int .i64 a).wf = true) (b : Int) (w1 : (Lit.int .i64 b).wf = true) (w : World) :
    Calls Try.prog 3 #[.int .i64 a, .int .i64 b] w fun e w' => e = .returned (.bool true) ∧ Below w.heap.size w w' := by
  obtain ⟨m, hm⟩ := Int.eq_ofNat_of_zero_le (show 0 ≤ a % 256 by omega)
  obtain ⟨n, hn⟩ := Int.eq_ofNat_of_zero_le (show 0 ≤ b % 256 by omega)
  have H1 := hide (fun W => specMulGf a b m n hm hn W)
  have H2 := hide (fun W => implMulGf a b m n hm hn W)
  clear hm hn
  generalize mul m n = r at *
  go_enter Try.func3, Try.ntmps3
  go_wp2_with (first | (go_at_call 9; with_reducible refine (unhide H1 _).mono ?_; rintro e w1 ⟨rfl, rfl⟩) | (go_at_call 10; with_reducible refine (unhide H2 _).mono ?_; rintro e w1 ⟨rfl, rfl⟩))
  go_ret
  exact ⟨rfl, Below.refl _ _⟩
end Go.Proofs.Ytlfffglkpijjdaa.fnExactMulGf
