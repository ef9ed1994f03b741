/-
  Contract: the model's look at a header.
-/
import Derived.Test.YtbabipaipbjlbaaHcp
import Derived.Carry
namespace Go.Proofs.Ytbabipaipbjlbaa
open Go.ChangeShapes Go.WideShapes Go.ChangeAt Go.RowKit
set_option linter.unusedVariables false
set_option maxRecDepth 100000

theorem in_yes (n lo hi : Int) (w : World) (h0 : lo ≤ n) (h1 : n ≤ hi) :
    Calls Try.prog 34 #[.int .i64 n, .int .i64 lo, .int .i64 hi] w fun e w' => e = .returned (.bool true) ∧ w' = w := by
  go_enter Try.func34, Try.ntmps34
  go_wp2
  go_ret
  exact ⟨rfl, rfl⟩
theorem in_no (n lo hi : Int) (w : World) (h : ¬ (lo ≤ n ∧ n ≤ hi)) :
    Calls Try.prog 34 #[.int .i64 n, .int .i64 lo, .int .i64 hi] w fun e w' => e = .returned (.bool false) ∧ w' = w := by
  by_cases h1 : lo ≤ n
  · have h2 : ¬ n ≤ hi := fun q => h ⟨h1, q⟩
    clear h
    go_enter Try.func34, Try.ntmps34
    go_wp2
    go_ret
    exact ⟨rfl, rfl⟩
  · clear h
    go_enter Try.func34, Try.ntmps34
    go_wp2
    go_ret
    exact ⟨rfl, rfl⟩
def okW (lo v : Int) : Bool := decide (lo ≤ v ∧ v ≤ 4294967295)
theorem word_yes (v : Int) (w : World) (h : okW 0 v = true) :
    Calls Try.prog 77 #[.int .i64 v] w fun e w' => e = .returned (.bool true) ∧ w' = w := by
  simp [okW] at h
  go_enter Try.func77, Try.ntmps77
  go_wp2_with (go_at_call 34; refine (in_yes _ _ _ _ (by omega) (by omega)).mono ?_; rintro e w' ⟨rfl, rfl⟩)
  go_ret
  exact ⟨rfl, rfl⟩
theorem word_no (v : Int) (w : World) (h : okW 0 v = false) :
    Calls Try.prog 77 #[.int .i64 v] w fun e w' => e = .returned (.bool false) ∧ w' = w := by
  have h' : ¬ ((0 : Int) ≤ v ∧ v ≤ 4294967295) := of_decide_eq_false h
  clear h
  go_enter Try.func77, Try.ntmps77
  go_wp2_with (go_at_call 34; refine (in_no _ _ _ _ (by omega)).mono ?_; rintro e w' ⟨rfl, rfl⟩)
  go_ret
  exact ⟨rfl, rfl⟩

def allW (lo : Int) (V : Nat → Int) (n : Nat) : Bool := (List.range n).all fun i => okW lo (V i)
theorem allW_no {lo : Int} {V : Nat → Int} {n k : Nat} (hk : k < n) (h : okW lo (V k) = false) : allW lo V n = false := by
  unfold allW
  rw [List.all_eq_false]
  exact ⟨k, List.mem_range.2 hk, by simp [h]⟩
theorem allW_yes {lo : Int} {V : Nat → Int} {n : Nat} (h : ∀ j, j < n → okW lo (V j) = true) : allW lo V n = true := by
  unfold allW
  rw [List.all_eq_true]
  exact fun j hj => h j (List.mem_range.1 hj)

theorem upto_succW {lo : Int} {V : Nat → Int} {k : Nat} (h : ∀ j, j < k → okW lo (V j) = true) (hk : okW lo (V k) = true) : ∀ j, j < k + 1 → okW lo (V j) = true := by
  intro j hj
  by_cases e : j = k
  · rw [e]; exact hk
  · exact h j (by omega)
theorem size0 (s : ByteArray) : s.toList = [] ↔ s.size = 0 := by
  have h : s.toList.length = s.size := by rw [Lib.toList_data, Array.length_toList]; rfl
  constructor
  · intro e; rw [e] at h; simpa using h.symm
  · intro e; rw [e] at h; exact List.length_eq_zero_iff.1 h

def g4 (ve : Int) (p n : Nat) (V : Nat → Int) : Bool := decide (ve = 0 ∧ p = 0 ∧ 1 ≤ n ∧ n ≤ 20 ∧ allW 0 V n = true)
def gv (lo : Int) (n : Nat) (V : Nat → Int) : Bool := decide (1 ≤ n ∧ n ≤ 20 ∧ allW lo V n = true)
/-- what a form names, and nothing else -/
def gpB (f ve : Int) (s t p n : Nat) (V : Nat → Int) : Bool :=
  if f = 0 then decide (p ≤ 1200 ∧ okW 1 ve = true ∧ t ≤ 200 ∧ 1 ≤ p ∧ n = 0)
  else if f = 1 ∨ f = 2 ∨ f = 3 then decide (p ≤ 1200 ∧ okW 1 ve = true ∧ t = 0 ∧ 1 ≤ p ∧ n = 0)
  else if f = 4 then decide (p ≤ 1200 ∧ ve = 0 ∧ t = 0 ∧ p = 0 ∧ gv 0 n V = true)
  else if f = 5 then decide (p ≤ 1200 ∧ ve = 0 ∧ s = 0 ∧ t = 0 ∧ n = 0) else false
/-- a good header -/
def gh (f bi ve : Int) (d s t p n : Nat) (V : Nat → Int) : Bool := decide (d ≤ 20 ∧ s ≤ 20 ∧ 0 ≤ bi ∧ bi ≤ 15 ∧ gpB f ve s t p n V = true)
theorem gpB_lim {f ve : Int} {s t p n : Nat} {V : Nat → Int} (h : gpB f ve s t p n V = true) : p ≤ 1200 ∧ t ≤ 200 ∧ (f ≠ 0 → t = 0) ∧ (f ≠ 4 → n = 0) ∧ (f = 0 ∨ f = 1 ∨ f = 2 ∨ f = 3 ∨ f = 4 ∨ f = 5) := by
  unfold gpB at h
  split at h
  · rw [decide_eq_true_eq] at h; omega
  · split at h
    · rw [decide_eq_true_eq] at h; omega
    · split at h
      · rw [decide_eq_true_eq] at h; omega
      · split at h
        · rw [decide_eq_true_eq] at h; omega
        · cases h
theorem gpB_0 (ve : Int) (s t p n : Nat) (V : Nat → Int) : gpB 0 ve s t p n V = decide (p ≤ 1200 ∧ okW 1 ve = true ∧ t ≤ 200 ∧ 1 ≤ p ∧ n = 0) := rfl
theorem gpB_1 (ve : Int) (s t p n : Nat) (V : Nat → Int) : gpB 1 ve s t p n V = decide (p ≤ 1200 ∧ okW 1 ve = true ∧ t = 0 ∧ 1 ≤ p ∧ n = 0) := rfl
theorem gpB_2 (ve : Int) (s t p n : Nat) (V : Nat → Int) : gpB 2 ve s t p n V = decide (p ≤ 1200 ∧ okW 1 ve = true ∧ t = 0 ∧ 1 ≤ p ∧ n = 0) := rfl
theorem gpB_3 (ve : Int) (s t p n : Nat) (V : Nat → Int) : gpB 3 ve s t p n V = decide (p ≤ 1200 ∧ okW 1 ve = true ∧ t = 0 ∧ 1 ≤ p ∧ n = 0) := rfl
theorem gpB_4 (ve : Int) (s t p n : Nat) (V : Nat → Int) : gpB 4 ve s t p n V = decide (p ≤ 1200 ∧ ve = 0 ∧ t = 0 ∧ p = 0 ∧ gv 0 n V = true) := rfl
theorem gpB_5 (ve : Int) (s t p n : Nat) (V : Nat → Int) : gpB 5 ve s t p n V = decide (p ≤ 1200 ∧ ve = 0 ∧ s = 0 ∧ t = 0 ∧ n = 0) := rfl
theorem g4_gv (ve : Int) (p n : Nat) (V : Nat → Int) : (g4 ve p n V = true) ↔ (ve = 0 ∧ p = 0 ∧ gv 0 n V = true) := by
  unfold g4 gv
  rw [decide_eq_true_eq, decide_eq_true_eq]
theorem isE {s : ByteArray} (h : ¬ s.toList = []) : s.toList.isEmpty = false := by
  cases e : s.toList with
  | nil => exact absurd e h
  | cons a l => rfl

set_option maxHeartbeats 4000000 in
theorem specGood_early (f bi ve : Int) (d s t p : ByteArray) (ra : Option Addr) (n cap : Nat) (w : World) (hd : d.size ≤ 1048576) (hs : s.size ≤ 1048576) (ht : t.size ≤ 1048576) (hp : p.size ≤ 1048576)
    (h : ¬ (d.size ≤ 20 ∧ s.size ≤ 20 ∧ (0 ≤ bi ∧ bi ≤ 15) ∧ t.size ≤ 200 ∧ p.size ≤ 1200)) :
    Calls Try.prog 50 #[hv f bi ve d s t p ra n cap] w fun e w' => e = .returned (.bool false) ∧ Below w.heap.size w w' := by
  by_cases c1 : d.size ≤ 20
  case neg =>
    go_enter Try.func50, Try.ntmps50
    go_wp2
    go_ret
    exact ⟨rfl, (Below.refl _ _).alloc (Nat.le_refl _) _⟩
  by_cases c2 : s.size ≤ 20
  case neg =>
    go_enter Try.func50, Try.ntmps50
    go_wp2
    go_ret
    exact ⟨rfl, (Below.refl _ _).alloc (Nat.le_refl _) _⟩
  by_cases c3 : 0 ≤ bi ∧ bi ≤ 15
  case neg =>
    go_enter Try.func50, Try.ntmps50
    go_wp2_with (go_at_call 34; refine (in_no _ _ _ _ (by omega)).mono ?_; rintro e w' ⟨rfl, rfl⟩)
    go_ret
    exact ⟨rfl, (Below.refl _ _).alloc (Nat.le_refl _) _⟩
  by_cases c4 : t.size ≤ 200
  case neg =>
    go_enter Try.func50, Try.ntmps50
    go_wp2_with (go_at_call 34; refine (in_yes _ _ _ _ (by omega) (by omega)).mono ?_; rintro e w' ⟨rfl, rfl⟩)
    go_ret
    exact ⟨rfl, (Below.refl _ _).alloc (Nat.le_refl _) _⟩
  have c5 : ¬ p.size ≤ 1200 := by omega
  clear h
  go_enter Try.func50, Try.ntmps50
  go_wp2_with (go_at_call 34; refine (in_yes _ _ _ _ (by omega) (by omega)).mono ?_; rintro e w' ⟨rfl, rfl⟩)
  go_ret
  exact ⟨rfl, (Below.refl _ _).alloc (Nat.le_refl _) _⟩

end Go.Proofs.Ytbabipaipbjlbaa
