/-
  Contracts: whether what goes out is good, of both sides.
-/
import Derived.Test.YtmicpknilhiliaaOfw
import Derived.Test.YtmicpknilhiliaaSnf
import Derived.Test.YtmicpknilhiliaaStv
namespace Go.Proofs.Ytmicpknilhiliaa.Rc
open Go.ChangeShapes Go.WideShapes Go.ChangeAt Go.RowKit Go.Deep
set_option linter.unusedVariables false
set_option maxRecDepth 100000

theorem win4 (t : ByteArray) (most : Nat) (hm : most ≤ 100000) (hl : t.size ≤ 1099511627776) (w : World) (g c : Nat) (hc : w.cell? ⟨g, 0, none⟩ = some (.string t)) :
    Calls Try.prog 11 #[.int .i64 most, .slice (some ⟨g, 0, none⟩) 1 c] w fun e w' => e = .returned (.bool (decide (t.size ≤ most))) ∧ w' = w := by
  by_cases h : t.size ≤ most
  · have h2 : ¬ ((most : Int) < (t.size : Int)) := by omega
    rw [decide_eq_true h]
    go_enter Try.func11, Try.ntmps11
    go_wp2
    refine wp_loop_rounds 2 ?_
    rw [rounds_succ]
    go_wp2
    rw [rounds_succ]
    go_wp2
    go_ret
    exact ⟨rfl, rfl⟩
  · have h2 : (most : Int) < (t.size : Int) := by omega
    rw [decide_eq_false h]
    go_enter Try.func11, Try.ntmps11
    go_wp2
    refine wp_loop_rounds 1 ?_
    rw [rounds_succ]
    go_wp2
    go_ret
    exact ⟨rfl, rfl⟩
def knI (n : Int) : Bool := decide (0 ≤ n) && decide (n ≤ 4611686018427387903)
/-- whether what goes out is good -/
def goB (D : OutflowD) : Bool := knI D.f0 && (decide (D.f2.size ≤ 4000) && ((decide (0 ≤ D.f1) && decide (D.f1 ≤ D.f2.size)) && decide (D.f1 ≤ D.f0)))
theorem goB_min (D : OutflowD) : goB D = (knI D.f0 && (decide (D.f2.size ≤ 4000) && (decide (0 ≤ D.f1) && decide (D.f1 ≤ (if (D.f2.size : Int) ≤ D.f0 then (D.f2.size : Int) else D.f0))))) := by
  unfold goB
  congr 1
  congr 1
  rw [Bool.eq_iff_iff]
  simp only [Bool.and_eq_true, decide_eq_true_eq]
  split <;> omega
end Go.Proofs.Ytmicpknilhiliaa.Rc
