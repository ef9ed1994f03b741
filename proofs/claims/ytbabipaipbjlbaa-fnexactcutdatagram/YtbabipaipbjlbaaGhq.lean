/-
  Contract: the model's GoodHeader of an answer with no version.
-/
import Derived.Test.YtbabipaipbjlbaaGho
namespace Go.Proofs.Ytbabipaipbjlbaa
open Go.ChangeShapes Go.WideShapes Go.ChangeAt Go.RowKit
set_option linter.unusedVariables false
set_option maxRecDepth 100000

set_option maxHeartbeats 4000000 in
theorem so_4n (bi ve : Int) (d s t p : ByteArray) (ra : Option Addr) (cap : Nat) (w : World) (c1 : d.size ≤ 20) (c2 : s.size ≤ 20) (c3 : 0 ≤ bi) (c3' : bi ≤ 15) (c4 : t.size ≤ 200) (c5 : p.size ≤ 1200) (ht : t.toList = []) :
    Calls Try.prog 50 #[hv 4 bi ve d s t p ra 0 cap] w fun e w' => e = .returned (.bool false) ∧ Below w.heap.size w w' := by
  by_cases v0 : ve = 0
  · subst v0
    by_cases p0 : p.toList = []
    · go_enter Try.func50, Try.ntmps50
      go_wp2_with (go_at_call 34; refine (in_yes _ _ _ _ (by omega) (by omega)).mono ?_; rintro e w' ⟨rfl, rfl⟩)
      refine wp_loop_rounds 1 ?_
      rw [rounds_succ]
      go_wp2_with (go_at_call 34; refine (in_no _ _ _ _ (by omega)).mono ?_; rintro e w' ⟨rfl, rfl⟩)
      go_ret
      exact ⟨rfl, (Below.refl _ _).alloc (Nat.le_refl _) _⟩
    · go_enter Try.func50, Try.ntmps50
      go_wp2_with (go_at_call 34; refine (in_yes _ _ _ _ (by omega) (by omega)).mono ?_; rintro e w' ⟨rfl, rfl⟩)
      refine wp_loop_rounds 1 ?_
      rw [rounds_succ]
      go_wp2
      go_ret
      exact ⟨rfl, (Below.refl _ _).alloc (Nat.le_refl _) _⟩
  · have v1 : (ve == 0) = false := beq_eq_false_iff_ne.2 v0
    go_enter Try.func50, Try.ntmps50
    go_wp2_with (go_at_call 34; refine (in_yes _ _ _ _ (by omega) (by omega)).mono ?_; rintro e w' ⟨rfl, rfl⟩)
    refine wp_loop_rounds 1 ?_
    rw [rounds_succ]
    go_wp2
    go_ret
    exact ⟨rfl, (Below.refl _ _).alloc (Nat.le_refl _) _⟩
end Go.Proofs.Ytbabipaipbjlbaa
