/-
  Contracts: what is minted as a value, its copies and its weight; addresses, times and marks of both sides.
-/
import Derived.Test.YtldjenhknejpnaaInb
import Derived.Test.YtldjenhknejpnaaWtn
namespace Go.Proofs.Ytldjenhknejpnaa
open Go.ChangeShapes Go.WideShapes Go.ChangeAt Go.RowKit
set_option linter.unusedVariables false
set_option maxRecDepth 100000

/-- what is minted, as a value -/
abbrev mnV (d : ByteArray) (t : Int) (n : Bool) : Value := .agg #[.string d, .int .i64 t, .bool n]
theorem none_iff (s : ByteArray) : s.toList = [] ↔ s.size = 0 := by
  have h : s.toList.length = s.size := by rw [Lib.toList_data, Array.length_toList]; rfl
  constructor
  · intro e; rw [e] at h; simpa using h.symm
  · intro e; rw [e] at h; exact List.length_eq_zero_iff.1 h
theorem goodAd (a : ByteArray) (hl : a.size ≤ 1048576) (w : World) :
    Calls Try.prog 44 #[.string a] w fun e w' => e = .returned (.bool (decide (1 ≤ a.size ∧ a.size ≤ 18))) ∧ Below w.heap.size w w' := by
  by_cases h0 : a.toList = []
  · have h1 : a.size = 0 := (none_iff a).1 h0
    rw [decide_eq_false (by omega)]
    go_enter Try.func44, Try.ntmps44
    go_wp2
    go_ret
    exact ⟨rfl, Below.refl _ _⟩
  · have h1 : ¬ a.size = 0 := fun e => h0 ((none_iff a).2 e)
    rw [show decide (1 ≤ a.size ∧ a.size ≤ 18) = decide (a.size ≤ 18) from decide_eq_decide.2 (by omega)]
    have HW := hide (within_one a 18 (by omega) hl)
    have hE := hide (List.isEmpty_eq_false_iff.2 h0)
    clear h1
    go_enter Try.func44, Try.ntmps44
    go_wp2_with fail
    refine (unhide HW _ _ _ (by simp)).mono ?_
    rintro e w1 ⟨rfl, h9⟩
    rw [h9]
    clear h9 w1
    go_wp2
    go_ret
    exact ⟨by show Ending.returned (Value.bool (!a.toList.isEmpty && decide (a.size ≤ 18))) = _; rw [unhide hE]; rfl, (Below.refl _ _).alloc (Nat.le_refl _) _⟩
theorem goodLf (t : Int) (w : World) :
    Calls Try.prog 28 #[.int .i64 t] w fun e w' => e = .returned (.bool (decide (0 ≤ t ∧ t ≤ 1000000))) ∧ w' = w := by
  by_cases h0 : 0 ≤ t
  · rw [show decide (0 ≤ t ∧ t ≤ 1000000) = decide (t ≤ 1000000) from decide_eq_decide.2 (by omega)]
    go_enter Try.func28, Try.ntmps28
    go_wp2
    go_ret
    exact ⟨rfl, rfl⟩
  · rw [decide_eq_false (by omega)]
    go_enter Try.func28, Try.ntmps28
    go_wp2
    go_ret
    exact ⟨rfl, rfl⟩
theorem specAd (a : ByteArray) (w : World) :
    Calls Try.prog 42 #[.string a] w fun e w' => e = .returned (.bool (decide (1 ≤ a.size ∧ a.size ≤ 18))) ∧ w' = w := by
  have H := hide (inB (a.size : Int) 1 18)
  have e : (decide ((1 : Int) ≤ a.size) && decide ((a.size : Int) ≤ 18)) = decide (1 ≤ a.size ∧ a.size ≤ 18) := by
    rw [← Bool.decide_and]; exact decide_eq_decide.2 (by omega)
  rw [e] at H
  clear e
  generalize decide (1 ≤ a.size ∧ a.size ≤ 18) = r at *
  go_enter Try.func42, Try.ntmps42
  go_wp2_with fail
  refine (unhide H _).mono ?_
  rintro e w1 ⟨rfl, h9⟩
  rw [h9]
  clear h9 w1
  go_wp2
  go_ret
  exact ⟨rfl, rfl⟩
end Go.Proofs.Ytldjenhknejpnaa
