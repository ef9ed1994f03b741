/-
  Contracts: round trips of the program: whether they are good, and a new sample.
-/
import Derived.Test.YtenfjcdkabeilaaRts
import Derived.Laws.Cover1
namespace Go.Proofs.Ytenfjcdkabeilaa.Rc
open Go.ChangeShapes Go.WideShapes Go.ChangeAt Go.RowKit Go.Deep
set_option linter.unusedVariables false
set_option maxRecDepth 100000

theorem btw (lo n hi : Int) (w : World) :
    Calls Try.prog 20 #[.int .i64 lo, .int .i64 n, .int .i64 hi] w fun e w' => e = .returned (.bool (decide (lo ≤ n) && decide (n ≤ hi))) ∧ w' = w := by
  by_cases h : lo ≤ n
  · have h1 : decide (lo ≤ n) = true := by simpa using h
    go_enter Try.func20, Try.ntmps20
    go_wp2
    go_ret
    exact ⟨by rw [h1]; rfl, rfl⟩
  · have h1 : decide (lo ≤ n) = false := by simpa using h
    go_enter Try.func20, Try.ntmps20
    go_wp2
    go_ret
    exact ⟨rfl, rfl⟩
theorem rt_alt (la mi sm va : Int) : rtB ⟨true, la, mi, sm, va⟩ = ((decide (0 ≤ mi) && decide (mi ≤ la)) && (tkB la && (tkB sm && tkB va))) := by
  have e : rtB ⟨true, la, mi, sm, va⟩ = (tkB mi && ((decide (mi ≤ la) && decide (la ≤ 1000000000)) && (tkB sm && tkB va))) := rfl
  rw [e]
  generalize (tkB sm && tkB va) = r
  cases r with
  | false => simp
  | true =>
    unfold tkB
    rw [Bool.eq_iff_iff]
    simp only [Bool.and_true, Bool.and_eq_true, decide_eq_true_eq]
    omega
end Go.Proofs.Ytenfjcdkabeilaa.Rc
