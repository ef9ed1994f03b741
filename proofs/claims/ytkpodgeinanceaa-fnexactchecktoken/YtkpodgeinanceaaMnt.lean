/-
  Contracts: what is minted as a value, its copies and its weight; addresses, times and marks of both sides.
-/
import Derived.Test.YtkpodgeinanceaaInb
import Derived.Test.YtkpodgeinanceaaWtn
namespace Go.Proofs.Ytkpodgeinanceaa
open Go.ChangeShapes Go.WideShapes Go.ChangeAt Go.RowKit
set_option linter.unusedVariables false
set_option maxRecDepth 100000

/-- what is minted, as a value -/
abbrev mnV (d : ByteArray) (t : Int) (n : Bool) : Value := .agg #[.string d, .int .i64 t, .bool n]
theorem none_iff (s : ByteArray) : s.toList = [] ↔ s.size = 0 := by
  have h : s.toList.length = s.size := by rw [Lib.toList_data, Array.length_toList]; rfl
  constructor
  · intro e; rw [e] at h; simpa using h.symm
  · intro e; rw [e] at h; exact List.length_eq_zero_iff.1 h
set_option maxHeartbeats 1000000 in
theorem eqMn (d : ByteArray) (t : Int) (n : Bool) (w : World) :
    Calls Try.prog 9 #[mnV d t n, mnV d t n] w fun e w' => e = .returned (.bool true) ∧ Below w.heap.size w w' := by
  go_enter Try.func9, Try.ntmps9
  go_wp2
  go_ret
  exact ⟨rfl, ((Below.refl _ _).alloc (Nat.le_refl _) _).alloc (by simp) _⟩
theorem goodAd (a : ByteArray) (hl : a.size ≤ 1048576) (w : World) :
    Calls Try.prog 21 #[.string a] w fun e w' => e = .returned (.bool (decide (1 ≤ a.size ∧ a.size ≤ 18))) ∧ Below w.heap.size w w' := by
  by_cases h0 : a.toList = []
  · have h1 : a.size = 0 := (none_iff a).1 h0
    rw [decide_eq_false (by omega)]
    go_enter Try.func21, Try.ntmps21
    go_wp2
    go_ret
    exact ⟨rfl, Below.refl _ _⟩
  · have h1 : ¬ a.size = 0 := fun e => h0 ((none_iff a).2 e)
    rw [show decide (1 ≤ a.size ∧ a.size ≤ 18) = decide (a.size ≤ 18) from decide_eq_decide.2 (by omega)]
    have HW := hide (within_one a 18 (by omega) hl)
    have hE := hide (List.isEmpty_eq_false_iff.2 h0)
    clear h1
    go_enter Try.func21, Try.ntmps21
    go_wp2_with fail
    refine (unhide HW _ _ _ (by simp)).mono ?_
    rintro e w1 ⟨rfl, h9⟩
    rw [h9]
    clear h9 w1
    go_wp2
    go_ret
    exact ⟨by show Ending.returned (Value.bool (!a.toList.isEmpty && decide (a.size ≤ 18))) = _; rw [unhide hE]; rfl, (Below.refl _ _).alloc (Nat.le_refl _) _⟩
theorem goodTm (t : Int) (w : World) :
    Calls Try.prog 22 #[.int .i64 t] w fun e w' => e = .returned (.bool (decide (0 ≤ t ∧ t ≤ 1000000000))) ∧ w' = w := by
  by_cases h0 : 0 ≤ t
  · rw [show decide (0 ≤ t ∧ t ≤ 1000000000) = decide (t ≤ 1000000000) from decide_eq_decide.2 (by omega)]
    go_enter Try.func22, Try.ntmps22
    go_wp2
    go_ret
    exact ⟨rfl, rfl⟩
  · rw [decide_eq_false (by omega)]
    go_enter Try.func22, Try.ntmps22
    go_wp2
    go_ret
    exact ⟨rfl, rfl⟩
theorem goodLf (t : Int) (w : World) :
    Calls Try.prog 23 #[.int .i64 t] w fun e w' => e = .returned (.bool (decide (0 ≤ t ∧ t ≤ 1000000))) ∧ w' = w := by
  by_cases h0 : 0 ≤ t
  · rw [show decide (0 ≤ t ∧ t ≤ 1000000) = decide (t ≤ 1000000) from decide_eq_decide.2 (by omega)]
    go_enter Try.func23, Try.ntmps23
    go_wp2
    go_ret
    exact ⟨rfl, rfl⟩
  · rw [decide_eq_false (by omega)]
    go_enter Try.func23, Try.ntmps23
    go_wp2
    go_ret
    exact ⟨rfl, rfl⟩
set_option maxHeartbeats 1000000 in
theorem goodMd (d : ByteArray) (t : Int) (n : Bool) (hl : d.size ≤ 1048576) (w : World) :
    Calls Try.prog 30 #[mnV d t n] w fun e w' => e = .returned (.bool (decide (d.size ≤ 20 ∧ 0 ≤ t ∧ t ≤ 1000000000))) ∧ Below w.heap.size w w' := by
  have HW := hide (within_one d 20 (by omega) hl)
  by_cases h0 : d.size ≤ 20
  case neg =>
    rw [decide_eq_false h0] at HW
    rw [decide_eq_false (show ¬ (d.size ≤ 20 ∧ 0 ≤ t ∧ t ≤ 1000000000) from fun x => h0 x.1)]
    clear h0
    go_enter Try.func30, Try.ntmps30
    go_wp2_with fail
    refine (unhide HW _ _ _ (by simp)).mono ?_
    rintro e w1 ⟨rfl, h9⟩
    rw [h9]
    clear h9 w1
    go_wp2
    go_ret
    exact ⟨rfl, ((Below.refl _ _).alloc (Nat.le_refl _) _).alloc (by simp) _⟩
  rw [decide_eq_true h0] at HW
  have HT := hide (goodTm t)
  rw [show decide (d.size ≤ 20 ∧ 0 ≤ t ∧ t ≤ 1000000000) = decide (0 ≤ t ∧ t ≤ 1000000000) from decide_eq_decide.2 (by omega)]
  generalize decide (0 ≤ t ∧ t ≤ 1000000000) = r at *
  clear h0
  go_enter Try.func30, Try.ntmps30
  go_wp2_with fail
  refine (unhide HW _ _ _ (by simp)).mono ?_
  rintro e w1 ⟨rfl, h9⟩
  rw [h9]
  clear h9 w1
  go_wp2_with fail
  refine (unhide HT _).mono ?_
  rintro e w1 ⟨rfl, h9⟩
  rw [h9]
  clear h9 w1
  go_wp2
  go_ret
  exact ⟨rfl, ((Below.refl _ _).alloc (Nat.le_refl _) _).alloc (by simp) _⟩
theorem specAd (a : ByteArray) (w : World) :
    Calls Try.prog 18 #[.string a] w fun e w' => e = .returned (.bool (decide (1 ≤ a.size ∧ a.size ≤ 18))) ∧ w' = w := by
  have H := hide (inB (a.size : Int) 1 18)
  have e : (decide ((1 : Int) ≤ a.size) && decide ((a.size : Int) ≤ 18)) = decide (1 ≤ a.size ∧ a.size ≤ 18) := by
    rw [← Bool.decide_and]; exact decide_eq_decide.2 (by omega)
  rw [e] at H
  clear e
  generalize decide (1 ≤ a.size ∧ a.size ≤ 18) = r at *
  go_enter Try.func18, Try.ntmps18
  go_wp2_with fail
  refine (unhide H _).mono ?_
  rintro e w1 ⟨rfl, h9⟩
  rw [h9]
  clear h9 w1
  go_wp2
  go_ret
  exact ⟨rfl, rfl⟩
theorem specMd (d : ByteArray) (t : Int) (n : Bool) (hl : d.size ≤ 1048576) (w : World) :
    Calls Try.prog 34 #[mnV d t n] w fun e w' => e = .returned (.bool (decide (d.size ≤ 20 ∧ 0 ≤ t ∧ t ≤ 1000000000))) ∧ Below w.heap.size w w' := by
  by_cases h0 : d.size ≤ 20
  · have H := hide (inB t 0 1000000000)
    rw [← Bool.decide_and] at H
    rw [show decide (d.size ≤ 20 ∧ 0 ≤ t ∧ t ≤ 1000000000) = decide (0 ≤ t ∧ t ≤ 1000000000) from decide_eq_decide.2 (by omega)]
    generalize decide (0 ≤ t ∧ t ≤ 1000000000) = r at *
    have h1 : (d.size : Int) ≤ 20 := by omega
    go_enter Try.func34, Try.ntmps34
    go_wp2_with fail
    refine (unhide H _).mono ?_
    rintro e w1 ⟨rfl, h9⟩
    rw [h9]
    clear h9 w1
    go_wp2
    go_ret
    exact ⟨rfl, (Below.refl _ _).alloc (Nat.le_refl _) _⟩
  · rw [decide_eq_false (by omega)]
    have h1 : ¬ (d.size : Int) ≤ 20 := by omega
    go_enter Try.func34, Try.ntmps34
    go_wp2
    go_ret
    exact ⟨rfl, (Below.refl _ _).alloc (Nat.le_refl _) _⟩
/-- the byte that a token begins with -/
def mkW (n : Bool) : ByteArray := if n then ⟨#[1]⟩ else ⟨#[0]⟩
theorem mkW_size (n : Bool) : (mkW n).size = 1 := by cases n <;> rfl
theorem implMk (n : Bool) (w : World) :
    Calls Try.prog 31 #[.bool n] w fun e w' => e = .returned (.string (mkW n)) ∧ w' = w := by
  cases n <;>
  · go_enter Try.func31, Try.ntmps31
    go_wp2
    go_ret
    exact ⟨rfl, rfl⟩
end Go.Proofs.Ytkpodgeinanceaa
