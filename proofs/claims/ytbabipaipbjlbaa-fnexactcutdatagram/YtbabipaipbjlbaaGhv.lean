/-
  Contract: the model's look at a header, case by case.
-/
import Derived.Test.YtbabipaipbjlbaaGhs
namespace Go.Proofs.Ytbabipaipbjlbaa
open Go.ChangeShapes Go.WideShapes Go.ChangeAt Go.RowKit
set_option linter.unusedVariables false
set_option maxRecDepth 100000

set_option maxHeartbeats 4000000 in
theorem sg_5s (bi ve : Int) (d s t p : ByteArray) (g off n cap : Nat) (w : World) (c1 : d.size ≤ 20) (c2 : s.size ≤ 20) (c3 : 0 ≤ bi) (c3' : bi ≤ 15) (c4 : t.size ≤ 200) (c5 : p.size ≤ 1200)
    (ht : t.toList = []) (hn : n = 0) (hs : ¬ s.toList = []) :
    Calls Try.prog 50 #[hv 5 bi ve d s t p (some ⟨g, off, none⟩) n cap] w fun e w' => e = .returned (.bool false) ∧ Below w.heap.size w w' := by
  go_enter Try.func50, Try.ntmps50
  go_wp2_with ((go_at_call 34; refine (in_yes _ _ _ _ (by omega) (by omega)).mono ?_; rintro e w' ⟨rfl, rfl⟩))
  go_ret
  exact ⟨rfl, (Below.refl _ _).alloc (Nat.le_refl _) _⟩

set_option maxHeartbeats 4000000 in
theorem sg_5v (bi ve : Int) (d s t p : ByteArray) (g off n cap : Nat) (w : World) (c1 : d.size ≤ 20) (c2 : s.size ≤ 20) (c3 : 0 ≤ bi) (c3' : bi ≤ 15) (c4 : t.size ≤ 200) (c5 : p.size ≤ 1200)
    (ht : t.toList = []) (hn : n = 0) (hs : s.toList = []) (hw : (ve == 0) = false) :
    Calls Try.prog 50 #[hv 5 bi ve d s t p (some ⟨g, off, none⟩) n cap] w fun e w' => e = .returned (.bool false) ∧ Below w.heap.size w w' := by
  go_enter Try.func50, Try.ntmps50
  go_wp2_with ((go_at_call 34; refine (in_yes _ _ _ _ (by omega) (by omega)).mono ?_; rintro e w' ⟨rfl, rfl⟩))
  go_ret
  exact ⟨rfl, (Below.refl _ _).alloc (Nat.le_refl _) _⟩

set_option maxHeartbeats 4000000 in
theorem sg_5y (bi : Int) (d s t p : ByteArray) (g off n cap : Nat) (w : World) (c1 : d.size ≤ 20) (c2 : s.size ≤ 20) (c3 : 0 ≤ bi) (c3' : bi ≤ 15) (c4 : t.size ≤ 200) (c5 : p.size ≤ 1200)
    (ht : t.toList = []) (hn : n = 0) (hs : s.toList = []) :
    Calls Try.prog 50 #[hv 5 bi 0 d s t p (some ⟨g, off, none⟩) n cap] w fun e w' => e = .returned (.bool true) ∧ Below w.heap.size w w' := by
  go_enter Try.func50, Try.ntmps50
  go_wp2_with ((go_at_call 34; refine (in_yes _ _ _ _ (by omega) (by omega)).mono ?_; rintro e w' ⟨rfl, rfl⟩))
  go_ret
  exact ⟨rfl, (Below.refl _ _).alloc (Nat.le_refl _) _⟩

set_option maxHeartbeats 4000000 in
theorem sg_other (f bi ve : Int) (d s t p : ByteArray) (g off n cap : Nat) (w : World) (c1 : d.size ≤ 20) (c2 : s.size ≤ 20) (c3 : 0 ≤ bi) (c3' : bi ≤ 15) (c4 : t.size ≤ 200) (c5 : p.size ≤ 1200)
    (ht : t.toList = []) (hn : n = 0) (n0 : (f != 0) = true) (n4 : (f != 4) = true) (e0 : (f == 0) = false) (e1 : (f == 1) = false) (e2 : (f == 2) = false) (e3 : (f == 3) = false) (e4 : (f == 4) = false) (e5 : (f == 5) = false) :
    Calls Try.prog 50 #[hv f bi ve d s t p (some ⟨g, off, none⟩) n cap] w fun e w' => e = .returned (.bool false) ∧ Below w.heap.size w w' := by
  go_enter Try.func50, Try.ntmps50
  go_wp2_with ((go_at_call 34; refine (in_yes _ _ _ _ (by omega) (by omega)).mono ?_; rintro e w' ⟨rfl, rfl⟩))
  go_ret
  exact ⟨rfl, (Below.refl _ _).alloc (Nat.le_refl _) _⟩

set_option maxHeartbeats 4000000 in
theorem sg_4 (bi ve : Int) (d s t p : ByteArray) (g off n cap : Nat) (V : Nat → Int) (w : World) (hn : n ≤ 1048576) (h : Ir w g off n V) (c1 : d.size ≤ 20) (c2 : s.size ≤ 20) (c3 : 0 ≤ bi) (c3' : bi ≤ 15) (c4 : t.size ≤ 200) (c5 : p.size ≤ 1200)
    (ht : t.toList = []) :
    Calls Try.prog 50 #[hv 4 bi ve d s t p (some ⟨g, off, none⟩) n cap] w fun e w' => e = .returned (.bool (g4 ve p.size n V)) ∧ Below w.heap.size w w' := by
  have HR := hide h
  clear h
  go_enter Try.func50, Try.ntmps50
  go_wp2_with (go_at_call 34; refine (in_yes _ _ _ _ (by omega) (by omega)).mono ?_; rintro e w' ⟨rfl, rfl⟩)
  go_loopw [72] (fun i wr => ∃ k : Nat, k ≤ n ∧ i = .int .i64 k ∧ (∀ j, j < k → okW 0 (V j) = true) ∧ wr = w.alloc (.cells #[.int .i64 4, .int .i64 bi, .int .i64 ve, .string d, .string s, .string t, .string p, .slice (some ⟨g, off, none⟩) n cap] 49)) (fun i _ => n - (intOf i).toNat)
  case atStart => exact ⟨0, Nat.zero_le _, rfl, fun j hj => by omega, rfl⟩
  case round =>
    obtain ⟨k, hk, rfl, hok, rfl⟩ := hrel
    by_cases hlt : k < n
    · have hR := (unhide HR).alloc (.cells #[.int .i64 4, .int .i64 bi, .int .i64 ve, .string d, .string s, .string t, .string p, .slice (some ⟨g, off, none⟩) n cap] 49)
      have hcf := hR.cv k hlt
      have hlt' : g < w.heap.size := by rcases (unhide HR).lt with h1 | h1 <;> omega
      have HO := hide hok
      clear hok hR
      cases hw : okW 0 (V k) with
      | true =>
        have HW := hide (fun W => word_yes (V k) W hw)
        go_wp2_with (go_at_call 77; refine (unhide HW _).mono ?_; rintro e w' ⟨rfl, rfl⟩)
        exact ⟨⟨k + 1, by omega, by go_num, upto_succW (unhide HO) hw, by first | trivial | rfl⟩, by simp [intOf]; omega⟩
      | false =>
        have HW := hide (fun W => word_no (V k) W hw)
        have HF : Hid (g4 ve p.size n V = false) := decide_eq_false (fun q => by have := allW_no hlt hw; rw [this] at q; exact absurd q.2.2.2.2 (by decide))
        go_wp2_with (go_at_call 77; refine (unhide HW _).mono ?_; rintro e w' ⟨rfl, rfl⟩)
        go_ret
        exact ⟨by rw [unhide HF]; rfl, (Below.refl _ _).alloc (Nat.le_refl _) _⟩
    · obtain rfl : k = n := by omega
      have HA : Hid (allW 0 V k = true) := allW_yes hok
      clear hok
      have fin : ∀ b : Bool, (g4 ve p.size k V = b) → Hid (g4 ve p.size k V = b) := fun _ h => h
      have nl := size0 p
      by_cases v0 : ve = 0
      case neg =>
        have HF := fin false (decide_eq_false (fun q => v0 q.1))
        have v0' : (ve == 0) = false := beq_eq_false_iff_ne.2 v0
        clear fin nl
        go_wp2
        go_ret
        exact ⟨by rw [unhide HF]; rfl, (Below.refl _ _).alloc (Nat.le_refl _) _⟩
      subst v0
      by_cases p0 : p.toList = []
      case neg =>
        have HF := fin false (decide_eq_false (fun q => p0 (nl.2 q.2.1)))
        clear fin nl
        go_wp2
        go_ret
        exact ⟨by rw [unhide HF]; rfl, (Below.refl _ _).alloc (Nat.le_refl _) _⟩
      by_cases n0 : 1 ≤ k ∧ k ≤ 20
      · have HF := fin true (decide_eq_true ⟨rfl, nl.1 p0, n0.1, n0.2, unhide HA⟩)
        have HI := hide (fun W => in_yes (k : Int) 1 20 W (by omega) (by omega))
        clear fin nl n0
        go_wp2_with (go_at_call 34; refine (unhide HI _).mono ?_; rintro e w' ⟨rfl, rfl⟩)
        go_ret
        exact ⟨by rw [unhide HF]; rfl, (Below.refl _ _).alloc (Nat.le_refl _) _⟩
      · have HF := fin false (decide_eq_false (fun q => n0 ⟨q.2.2.1, q.2.2.2.1⟩))
        have HI := hide (fun W => in_no (k : Int) 1 20 W (by omega))
        clear fin nl n0
        go_wp2_with (go_at_call 34; refine (unhide HI _).mono ?_; rintro e w' ⟨rfl, rfl⟩)
        go_ret
        exact ⟨by rw [unhide HF]; rfl, (Below.refl _ _).alloc (Nat.le_refl _) _⟩
end Go.Proofs.Ytbabipaipbjlbaa
