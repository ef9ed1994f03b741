/-
  Contract: GoodRanges of the program.
-/
import Derived.Test.YtccfbkpelehldaaRga
namespace Go.Proofs.Ytccfbkpelehldaa.Rc
open Go.ChangeShapes Go.WideShapes Go.ChangeAt Go.RowKit Go.Deep
set_option linter.unusedVariables false
set_option maxRecDepth 100000

set_option maxHeartbeats 1000000 in
theorem implGR (L : List RangeD) (hn : L.length ≤ 1048576) (ho : rgO L) (W : World) (a : Option Addr) (cap : Nat) (h : Rd rangeK W a L) :
    Calls Try.prog 13 #[.slice a L.length cap] W fun e w' => e = .returned (.bool (grB L)) ∧ Below W.heap.size W w' := by
  rcases h with rfl | ⟨b, o, rfl, hb, h⟩
  · have H : Hid (Calls Try.prog 39 #[.slice a 0 cap] W fun e w' => e = .returned (.bool true) ∧ Below W.heap.size W w') := by
      show Calls _ _ _ _ _
      go_enter Try.func39, Try.ntmps39
      go_wp2
      refine wp_loop_rounds 1 ?_
      rw [rounds_succ]
      go_wp2
      go_ret
      exact ⟨rfl, Below.refl _ _⟩
    go_enter Try.func13, Try.ntmps13
    go_wp2_with fail
    refine (unhide H).mono ?_
    rintro e w1 ⟨rfl, b1⟩
    have B1 := hide b1
    clear b1
    go_wp2
    go_ret
    exact ⟨rfl, unhide B1⟩
  · have H := hide (falling_any b o L.length cap (fF L) (fT L) W hn (rd_rr hb h ho))
    clear h
    by_cases h2 : L.length ≤ 20
    · have HE : Hid (grB L = allR (fF L) (fT L) L.length) := by
        show _ = _
        unfold grB
        rw [decide_eq_true h2, Bool.true_and]
      rw [unhide HE]
      have h3 : (L.length : Int) ≤ 20 := by omega
      generalize allR (fF L) (fT L) L.length = r at *
      clear HE ho
      generalize L.length = n at *
      go_enter Try.func13, Try.ntmps13
      go_wp2_with fail
      refine (unhide H).mono ?_
      rintro e w1 ⟨rfl, b1⟩
      have B1 := hide b1
      clear b1
      go_wp2
      go_ret
      exact ⟨rfl, unhide B1⟩
    · have HE : Hid (grB L = false) := by
        show _ = _
        unfold grB
        rw [decide_eq_false h2]
        rfl
      rw [unhide HE]
      have h3 : ¬ (L.length : Int) ≤ 20 := by omega
      clear HE ho H
      generalize L.length = n at *
      go_enter Try.func13, Try.ntmps13
      go_wp2
      go_ret
      exact ⟨rfl, Below.refl _ _⟩
end Go.Proofs.Ytccfbkpelehldaa.Rc
