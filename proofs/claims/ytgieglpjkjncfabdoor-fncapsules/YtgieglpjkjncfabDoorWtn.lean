/-
  Contracts: lengths within a limit, of one text and of two.
-/
import Derived.Test.YtgieglpjkjncfabDoorBase
namespace Go.Proofs.YtgieglpjkjncfabDoor
open Go.ChangeShapes Go.WideShapes Go.ChangeAt Go.RowKit
set_option linter.unusedVariables false
set_option maxRecDepth 100000

theorem within_one (t : ByteArray) (most : Nat) (hm : most ≤ 100000) (hl : t.size ≤ 1048576) (w : World) (g c : Nat) (hc : w.cell? ⟨g, 0, none⟩ = some (.string t)) :
    Calls Tryd.prog 34 #[.int .i64 most, .slice (some ⟨g, 0, none⟩) 1 c] w fun e w' => e = .returned (.bool (decide (t.size ≤ most))) ∧ w' = w := by
  by_cases h : t.size ≤ most
  · have h2 : ¬ ((most : Int) < (t.size : Int)) := by omega
    rw [decide_eq_true h]
    go_enter Tryd.func34, Tryd.ntmps34
    go_wp2
    refine wp_loop_rounds 2 ?_
    rw [rounds_succ]
    go_wp2
    rw [rounds_succ]
    go_wp2
    go_ret
    exact ⟨rfl, rfl⟩
  · have h2 : (most : Int) < (t.size : Int) := by omega
    rw [decide_eq_false h]
    go_enter Tryd.func34, Tryd.ntmps34
    go_wp2
    refine wp_loop_rounds 1 ?_
    rw [rounds_succ]
    go_wp2
    go_ret
    exact ⟨rfl, rfl⟩

theorem within_two (t s : ByteArray) (most : Nat) (hm : most ≤ 100000) (hl : t.size ≤ 1048576) (hl2 : s.size ≤ 1048576) (w : World) (g c : Nat) (hc : w.cell? ⟨g, 0, none⟩ = some (.string t)) (hc1 : w.cell? ⟨g, 1, none⟩ = some (.string s)) :
    Calls Tryd.prog 34 #[.int .i64 most, .slice (some ⟨g, 0, none⟩) 2 c] w fun e w' => e = .returned (.bool (decide (t.size ≤ most ∧ s.size ≤ most))) ∧ w' = w := by
  by_cases h : t.size ≤ most
  · have h2 : ¬ ((most : Int) < (t.size : Int)) := by omega
    by_cases k : s.size ≤ most
    · have k2 : ¬ ((most : Int) < (s.size : Int)) := by omega
      rw [decide_eq_true ⟨h, k⟩]
      go_enter Tryd.func34, Tryd.ntmps34
      go_wp2
      refine wp_loop_rounds 3 ?_
      rw [rounds_succ]
      go_wp2
      rw [rounds_succ]
      go_wp2
      rw [rounds_succ]
      go_wp2
      go_ret
      exact ⟨rfl, rfl⟩
    · have k2 : (most : Int) < (s.size : Int) := by omega
      rw [decide_eq_false (fun x => k x.2)]
      go_enter Tryd.func34, Tryd.ntmps34
      go_wp2
      refine wp_loop_rounds 2 ?_
      rw [rounds_succ]
      go_wp2
      rw [rounds_succ]
      go_wp2
      go_ret
      exact ⟨rfl, rfl⟩
  · have h2 : (most : Int) < (t.size : Int) := by omega
    rw [decide_eq_false (fun x => h x.1)]
    go_enter Tryd.func34, Tryd.ntmps34
    go_wp2
    refine wp_loop_rounds 1 ?_
    rw [rounds_succ]
    go_wp2
    go_ret
    exact ⟨rfl, rfl⟩
end Go.Proofs.YtgieglpjkjncfabDoor
