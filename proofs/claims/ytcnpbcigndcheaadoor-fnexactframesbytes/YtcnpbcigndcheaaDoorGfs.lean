/-
  Contract: the model's look at a frame.
-/
import Derived.Test.YtcnpbcigndcheaaDoorRng
import Derived.Carry
namespace Go.Proofs.YtcnpbcigndcheaaDoor
open Go.ChangeShapes Go.WideShapes Go.ChangeAt Go.RowKit
set_option linter.unusedVariables false

/-- how many of A, B, C a kind has, and how long its data may be at least and at most; -1 where there is no such kind -/
def shp (k : Int) : Int × Int × Int :=
  if k = 0 ∨ k = 1 then (0, 0, 0) else if k = 16 ∨ k = 2 then (1, 0, 0) else if k = 17 ∨ k = 5 then (2, 0, 0) else if k = 4 then (3, 0, 0)
  else if k = 28 ∨ k = 8 then (2, 0, 200) else if k = 6 then (1, 0, 200) else if k = 7 then (0, 1, 200) else if k = 24 then (3, 1, 20)
  else if k = 26 ∨ k = 27 then (0, 8, 8) else if k = 48 then (0, 0, 200) else (-1, 0, 0)
theorem kinds (k : Int) : k = 0 ∨ k = 1 ∨ k = 2 ∨ k = 4 ∨ k = 5 ∨ k = 6 ∨ k = 7 ∨ k = 8 ∨ k = 16 ∨ k = 17 ∨ k = 24 ∨ k = 26 ∨ k = 27 ∨ k = 28 ∨ k = 48 ∨
    (k ≠ 0 ∧ k ≠ 1 ∧ k ≠ 2 ∧ k ≠ 4 ∧ k ≠ 5 ∧ k ≠ 6 ∧ k ≠ 7 ∧ k ≠ 8 ∧ k ≠ 16 ∧ k ≠ 17 ∧ k ≠ 24 ∧ k ≠ 26 ∧ k ≠ 27 ∧ k ≠ 28 ∧ k ≠ 48) := by omega
theorem shp_none (k : Int) (h : k ≠ 0 ∧ k ≠ 1 ∧ k ≠ 2 ∧ k ≠ 4 ∧ k ≠ 5 ∧ k ≠ 6 ∧ k ≠ 7 ∧ k ≠ 8 ∧ k ≠ 16 ∧ k ≠ 17 ∧ k ≠ 24 ∧ k ≠ 26 ∧ k ≠ 27 ∧ k ≠ 28 ∧ k ≠ 48) : shp k = (-1, 0, 0) := by
  unfold shp; simp [h]

set_option maxHeartbeats 2000000 in
theorem l1Shape_any (k : Int) (w : World) :
    Calls Tryd.prog 17 #[.int .i64 k] w fun e w' => e = .returned (.tuple #[.int .i64 (shp k).1, .int .i64 (shp k).2.1, .int .i64 (shp k).2.2]) ∧ w' = w := by
  rcases kinds k with rfl | rfl | rfl | rfl | rfl | rfl | rfl | rfl | rfl | rfl | rfl | rfl | rfl | rfl | rfl | h
  · go_enter Tryd.func17, Tryd.ntmps17
    go_wp2
    go_ret3
    exact ⟨rfl, rfl⟩
  iterate 14
    · go_enter Tryd.func17, Tryd.ntmps17
      go_wp2
      go_ret3
      exact ⟨rfl, rfl⟩
  · rw [shp_none k h]
    obtain ⟨h0, h1, h2, h4, h5, h6, h7, h8, h16, h17, h24, h26, h27, h28, h48⟩ := h
    have e0 : (k == 0) = false := beq_eq_false_iff_ne.2 h0
    have e1 : (k == 1) = false := beq_eq_false_iff_ne.2 h1
    have e2 : (k == 2) = false := beq_eq_false_iff_ne.2 h2
    have e4 : (k == 4) = false := beq_eq_false_iff_ne.2 h4
    have e5 : (k == 5) = false := beq_eq_false_iff_ne.2 h5
    have e6 : (k == 6) = false := beq_eq_false_iff_ne.2 h6
    have e7 : (k == 7) = false := beq_eq_false_iff_ne.2 h7
    have e8 : (k == 8) = false := beq_eq_false_iff_ne.2 h8
    have e16 : (k == 16) = false := beq_eq_false_iff_ne.2 h16
    have e17 : (k == 17) = false := beq_eq_false_iff_ne.2 h17
    have e24 : (k == 24) = false := beq_eq_false_iff_ne.2 h24
    have e26 : (k == 26) = false := beq_eq_false_iff_ne.2 h26
    have e27 : (k == 27) = false := beq_eq_false_iff_ne.2 h27
    have e28 : (k == 28) = false := beq_eq_false_iff_ne.2 h28
    have e48 : (k == 48) = false := beq_eq_false_iff_ne.2 h48
    clear h0 h1 h2 h4 h5 h6 h7 h8 h16 h17 h24 h26 h27 h28 h48
    go_enter Tryd.func17, Tryd.ntmps17
    go_wp2
    go_ret3
    exact ⟨rfl, rfl⟩

/-- a frame, as a value -/
abbrev fv (k a b c : Int) (fin : Bool) (s : ByteArray) (g off n cap : Nat) : Value := .agg #[.int .i64 k, .int .i64 a, .int .i64 b, .int .i64 c, .bool fin, .string s, .slice (some ⟨g, off, none⟩) n cap]
def knB (n : Int) : Bool := decide (0 ≤ n ∧ n ≤ 4611686018427387903)
/-- a good frame, as the model says it -/
def gf (k a b c : Int) (fin : Bool) (len n : Nat) (F T : Nat → Int) : Bool :=
  decide (0 ≤ (shp k).1 ∧ knB a = true ∧ knB b = true ∧ knB c = true ∧ (shp k).2.1 ≤ len ∧ len ≤ (shp k).2.2 ∧ (fin = true → k = 8) ∧
    ((shp k).1 < 3 → c = 0) ∧ ((shp k).1 < 2 → b = 0) ∧ ((shp k).1 < 1 → a = 0) ∧ (k = 2 ↔ 0 < n) ∧ (k = 2 → allR F T n = true ∧ n ≤ 20) ∧
    (k = 6 → a ≤ 4611686018427387903 - len) ∧ (k = 8 → b ≤ 4611686018427387903 - len) ∧ (k = 24 → b ≤ a ∧ c ≤ 255))

theorem knB_yes {n : Int} (h : knB n = true) : 0 ≤ n ∧ n ≤ 4611686018427387903 := by unfold knB at h; simpa using h
theorem knB_no {n : Int} (h : ¬ knB n = true) : ¬ (0 ≤ n ∧ n ≤ 4611686018427387903) := by unfold knB at h; simpa using h

set_option maxHeartbeats 4000000 in
theorem specGood_early (k a b c : Int) (fin : Bool) (s : ByteArray) (g off n cap : Nat) (F T : Nat → Int) (w : World) (hs : s.size ≤ 1048576)
    (h : ¬ (0 ≤ (shp k).1 ∧ knB a = true ∧ knB b = true ∧ knB c = true ∧ (shp k).2.1 ≤ s.size ∧ s.size ≤ (shp k).2.2 ∧ (fin = true → k = 8))) :
    Calls Tryd.prog 10 #[fv k a b c fin s g off n cap] w fun e w' => e = .returned (.bool (gf k a b c fin s.size n F T)) ∧ Below w.heap.size w w' := by
  have HS := hide (fun w => l1Shape_any k w)
  have HF : Hid (gf k a b c fin s.size n F T = false) := decide_eq_false (fun q => h ⟨q.1, q.2.1, q.2.2.1, q.2.2.2.1, q.2.2.2.2.1, q.2.2.2.2.2.1, q.2.2.2.2.2.2.1⟩)
  generalize (shp k).1 = m at *
  generalize (shp k).2.1 = lo at *
  generalize (shp k).2.2 = hi at *
  by_cases h1 : m < 0
  · clear h
    go_enter Tryd.func10, Tryd.ntmps10
    go_wp2_with (first | (go_at_call 17; refine (unhide HS _).mono ?_; rintro e w' ⟨rfl, rfl⟩) | (go_at_call 18; refine (l1Known_yes _ _ (by omega) (by omega)).mono ?_; rintro e w' ⟨rfl, rfl⟩) | (go_at_call 18; refine (l1Known_no _ _ (by omega)).mono ?_; rintro e w' ⟨rfl, rfl⟩) | (go_at_call 19; refine (l1In_yes _ _ _ _ (by omega) (by omega)).mono ?_; rintro e w' ⟨rfl, rfl⟩) | (go_at_call 19; refine (l1In_no _ _ _ _ (by omega)).mono ?_; rintro e w' ⟨rfl, rfl⟩))
    go_ret
    exact ⟨by rw [unhide HF]; rfl, ((Below.refl _ _).alloc (Nat.le_refl _) _)⟩
  · by_cases ha : knB a = true
    · obtain ⟨ha0, ha1⟩ := knB_yes ha
      by_cases hb : knB b = true
      · obtain ⟨hb0, hb1⟩ := knB_yes hb
        by_cases hc : knB c = true
        · obtain ⟨hc0, hc1⟩ := knB_yes hc
          by_cases hl : lo ≤ s.size ∧ (s.size : Int) ≤ hi
          · have hf : fin = true ∧ ¬ k = 8 := by
              cases fin
              · exact absurd ⟨by omega, ha, hb, hc, hl.1, hl.2, by simp⟩ h
              · exact ⟨rfl, fun e => h ⟨by omega, ha, hb, hc, hl.1, hl.2, fun _ => e⟩⟩
            obtain ⟨rfl, hk⟩ := hf
            have hk8 : (k != 8) = true := by rw [bne_iff_ne]; exact hk
            obtain ⟨hl1, hl2⟩ := hl
            clear h ha hb hc hk
            go_enter Tryd.func10, Tryd.ntmps10
            go_wp2_with (first | (go_at_call 17; refine (unhide HS _).mono ?_; rintro e w' ⟨rfl, rfl⟩) | (go_at_call 18; refine (l1Known_yes _ _ (by omega) (by omega)).mono ?_; rintro e w' ⟨rfl, rfl⟩) | (go_at_call 18; refine (l1Known_no _ _ (by omega)).mono ?_; rintro e w' ⟨rfl, rfl⟩) | (go_at_call 19; refine (l1In_yes _ _ _ _ (by omega) (by omega)).mono ?_; rintro e w' ⟨rfl, rfl⟩) | (go_at_call 19; refine (l1In_no _ _ _ _ (by omega)).mono ?_; rintro e w' ⟨rfl, rfl⟩))
            go_ret
            exact ⟨by rw [unhide HF]; rfl, ((Below.refl _ _).alloc (Nat.le_refl _) _)⟩
          · clear h ha hb hc
            go_enter Tryd.func10, Tryd.ntmps10
            go_wp2_with (first | (go_at_call 17; refine (unhide HS _).mono ?_; rintro e w' ⟨rfl, rfl⟩) | (go_at_call 18; refine (l1Known_yes _ _ (by omega) (by omega)).mono ?_; rintro e w' ⟨rfl, rfl⟩) | (go_at_call 18; refine (l1Known_no _ _ (by omega)).mono ?_; rintro e w' ⟨rfl, rfl⟩) | (go_at_call 19; refine (l1In_yes _ _ _ _ (by omega) (by omega)).mono ?_; rintro e w' ⟨rfl, rfl⟩) | (go_at_call 19; refine (l1In_no _ _ _ _ (by omega)).mono ?_; rintro e w' ⟨rfl, rfl⟩))
            go_ret
            exact ⟨by rw [unhide HF]; rfl, ((Below.refl _ _).alloc (Nat.le_refl _) _)⟩
        · have hc' := knB_no hc
          clear h ha hb hc
          go_enter Tryd.func10, Tryd.ntmps10
          go_wp2_with (first | (go_at_call 17; refine (unhide HS _).mono ?_; rintro e w' ⟨rfl, rfl⟩) | (go_at_call 18; refine (l1Known_yes _ _ (by omega) (by omega)).mono ?_; rintro e w' ⟨rfl, rfl⟩) | (go_at_call 18; refine (l1Known_no _ _ (by omega)).mono ?_; rintro e w' ⟨rfl, rfl⟩) | (go_at_call 19; refine (l1In_yes _ _ _ _ (by omega) (by omega)).mono ?_; rintro e w' ⟨rfl, rfl⟩) | (go_at_call 19; refine (l1In_no _ _ _ _ (by omega)).mono ?_; rintro e w' ⟨rfl, rfl⟩))
          go_ret
          exact ⟨by rw [unhide HF]; rfl, ((Below.refl _ _).alloc (Nat.le_refl _) _)⟩
      · have hb' := knB_no hb
        clear h ha hb
        go_enter Tryd.func10, Tryd.ntmps10
        go_wp2_with (first | (go_at_call 17; refine (unhide HS _).mono ?_; rintro e w' ⟨rfl, rfl⟩) | (go_at_call 18; refine (l1Known_yes _ _ (by omega) (by omega)).mono ?_; rintro e w' ⟨rfl, rfl⟩) | (go_at_call 18; refine (l1Known_no _ _ (by omega)).mono ?_; rintro e w' ⟨rfl, rfl⟩) | (go_at_call 19; refine (l1In_yes _ _ _ _ (by omega) (by omega)).mono ?_; rintro e w' ⟨rfl, rfl⟩) | (go_at_call 19; refine (l1In_no _ _ _ _ (by omega)).mono ?_; rintro e w' ⟨rfl, rfl⟩))
        go_ret
        exact ⟨by rw [unhide HF]; rfl, ((Below.refl _ _).alloc (Nat.le_refl _) _)⟩
    · have ha' := knB_no ha
      clear h ha
      go_enter Tryd.func10, Tryd.ntmps10
      go_wp2_with (first | (go_at_call 17; refine (unhide HS _).mono ?_; rintro e w' ⟨rfl, rfl⟩) | (go_at_call 18; refine (l1Known_yes _ _ (by omega) (by omega)).mono ?_; rintro e w' ⟨rfl, rfl⟩) | (go_at_call 18; refine (l1Known_no _ _ (by omega)).mono ?_; rintro e w' ⟨rfl, rfl⟩) | (go_at_call 19; refine (l1In_yes _ _ _ _ (by omega) (by omega)).mono ?_; rintro e w' ⟨rfl, rfl⟩) | (go_at_call 19; refine (l1In_no _ _ _ _ (by omega)).mono ?_; rintro e w' ⟨rfl, rfl⟩))
      go_ret
      exact ⟨by rw [unhide HF]; rfl, ((Below.refl _ _).alloc (Nat.le_refl _) _)⟩

set_option maxHeartbeats 4000000 in
theorem specGood_cF (k a b c : Int) (s : ByteArray) (g off n cap : Nat) (w : World) (hs : s.size ≤ 1048576) (hn : n ≤ 1048576) (m lo hi : Int)
    (HS : Hid (∀ w : World, Calls Tryd.prog 17 #[.int .i64 k] w fun e w' => e = .returned (.tuple #[.int .i64 m, .int .i64 lo, .int .i64 hi]) ∧ w' = w))
    (hm : 0 ≤ m) (ha0 : 0 ≤ a) (ha1 : a ≤ 4611686018427387903) (hb0 : 0 ≤ b) (hb1 : b ≤ 4611686018427387903) (hc0 : 0 ≤ c) (hc1 : c ≤ 4611686018427387903) (hl1 : lo ≤ s.size) (hl2 : (s.size : Int) ≤ hi)
    (h3 : m < 3) (hc : (c != 0) = true) :
    Calls Tryd.prog 10 #[fv k a b c false s g off n cap] w fun e w' => e = .returned (.bool false) ∧ Below w.heap.size w w' := by
  go_enter Tryd.func10, Tryd.ntmps10
  go_wp2_with (first | (go_at_call 17; refine (unhide HS _).mono ?_; rintro e w' ⟨rfl, rfl⟩) | (go_at_call 18; refine (l1Known_yes _ _ (by omega) (by omega)).mono ?_; rintro e w' ⟨rfl, rfl⟩) | (go_at_call 18; refine (l1Known_no _ _ (by omega)).mono ?_; rintro e w' ⟨rfl, rfl⟩) | (go_at_call 19; refine (l1In_yes _ _ _ _ (by omega) (by omega)).mono ?_; rintro e w' ⟨rfl, rfl⟩) | (go_at_call 19; refine (l1In_no _ _ _ _ (by omega)).mono ?_; rintro e w' ⟨rfl, rfl⟩))
  all_goals
    go_ret
    exact ⟨by first | rfl | simp, ((Below.refl _ _).alloc (Nat.le_refl _) _)⟩

set_option maxHeartbeats 4000000 in
theorem specGood_bF (k a b c : Int) (s : ByteArray) (g off n cap : Nat) (w : World) (hs : s.size ≤ 1048576) (hn : n ≤ 1048576) (m lo hi : Int)
    (HS : Hid (∀ w : World, Calls Tryd.prog 17 #[.int .i64 k] w fun e w' => e = .returned (.tuple #[.int .i64 m, .int .i64 lo, .int .i64 hi]) ∧ w' = w))
    (hm : 0 ≤ m) (ha0 : 0 ≤ a) (ha1 : a ≤ 4611686018427387903) (hb0 : 0 ≤ b) (hb1 : b ≤ 4611686018427387903) (hc0 : 0 ≤ c) (hc1 : c ≤ 4611686018427387903) (hl1 : lo ≤ s.size) (hl2 : (s.size : Int) ≤ hi)
    (hc : c = 0) (h2 : m < 2) (hb : (b != 0) = true) :
    Calls Tryd.prog 10 #[fv k a b c false s g off n cap] w fun e w' => e = .returned (.bool false) ∧ Below w.heap.size w w' := by
  subst hc
  have h3 : m < 3 := by omega
  go_enter Tryd.func10, Tryd.ntmps10
  go_wp2_with (first | (go_at_call 17; refine (unhide HS _).mono ?_; rintro e w' ⟨rfl, rfl⟩) | (go_at_call 18; refine (l1Known_yes _ _ (by omega) (by omega)).mono ?_; rintro e w' ⟨rfl, rfl⟩) | (go_at_call 18; refine (l1Known_no _ _ (by omega)).mono ?_; rintro e w' ⟨rfl, rfl⟩) | (go_at_call 19; refine (l1In_yes _ _ _ _ (by omega) (by omega)).mono ?_; rintro e w' ⟨rfl, rfl⟩) | (go_at_call 19; refine (l1In_no _ _ _ _ (by omega)).mono ?_; rintro e w' ⟨rfl, rfl⟩))
  all_goals
    go_ret
    exact ⟨by first | rfl | simp, ((Below.refl _ _).alloc (Nat.le_refl _) _)⟩

set_option maxHeartbeats 4000000 in
theorem specGood_aF (k a b c : Int) (s : ByteArray) (g off n cap : Nat) (w : World) (hs : s.size ≤ 1048576) (hn : n ≤ 1048576) (m lo hi : Int)
    (HS : Hid (∀ w : World, Calls Tryd.prog 17 #[.int .i64 k] w fun e w' => e = .returned (.tuple #[.int .i64 m, .int .i64 lo, .int .i64 hi]) ∧ w' = w))
    (hm : 0 ≤ m) (ha0 : 0 ≤ a) (ha1 : a ≤ 4611686018427387903) (hb0 : 0 ≤ b) (hb1 : b ≤ 4611686018427387903) (hc0 : 0 ≤ c) (hc1 : c ≤ 4611686018427387903) (hl1 : lo ≤ s.size) (hl2 : (s.size : Int) ≤ hi)
    (h1 : m < 1) (hc : c = 0) (hb : b = 0) (ha : (a != 0) = true) :
    Calls Tryd.prog 10 #[fv k a b c false s g off n cap] w fun e w' => e = .returned (.bool false) ∧ Below w.heap.size w w' := by
  subst hc hb
  have h3 : m < 3 := by omega
  have h2 : m < 2 := by omega
  go_enter Tryd.func10, Tryd.ntmps10
  go_wp2_with (first | (go_at_call 17; refine (unhide HS _).mono ?_; rintro e w' ⟨rfl, rfl⟩) | (go_at_call 18; refine (l1Known_yes _ _ (by omega) (by omega)).mono ?_; rintro e w' ⟨rfl, rfl⟩) | (go_at_call 18; refine (l1Known_no _ _ (by omega)).mono ?_; rintro e w' ⟨rfl, rfl⟩) | (go_at_call 19; refine (l1In_yes _ _ _ _ (by omega) (by omega)).mono ?_; rintro e w' ⟨rfl, rfl⟩) | (go_at_call 19; refine (l1In_no _ _ _ _ (by omega)).mono ?_; rintro e w' ⟨rfl, rfl⟩))
  all_goals
    go_ret
    exact ⟨by first | rfl | simp, ((Below.refl _ _).alloc (Nat.le_refl _) _)⟩

set_option maxHeartbeats 4000000 in
theorem specGood_nF (k a b c : Int) (s : ByteArray) (g off n cap : Nat) (w : World) (hs : s.size ≤ 1048576) (hn : n ≤ 1048576) (m lo hi : Int)
    (HS : Hid (∀ w : World, Calls Tryd.prog 17 #[.int .i64 k] w fun e w' => e = .returned (.tuple #[.int .i64 m, .int .i64 lo, .int .i64 hi]) ∧ w' = w))
    (hm : 0 ≤ m) (ha0 : 0 ≤ a) (ha1 : a ≤ 4611686018427387903) (hb0 : 0 ≤ b) (hb1 : b ≤ 4611686018427387903) (hc0 : 0 ≤ c) (hc1 : c ≤ 4611686018427387903) (hl1 : lo ≤ s.size) (hl2 : (s.size : Int) ≤ hi)
    (hcz : m < 3 → c = 0) (hbz : m < 2 → b = 0) (haz : m < 1 → a = 0) (h2 : (k == 2) = false) (hn0 : (0 : Int) < n) :
    Calls Tryd.prog 10 #[fv k a b c false s g off n cap] w fun e w' => e = .returned (.bool false) ∧ Below w.heap.size w w' := by
  go_enter Tryd.func10, Tryd.ntmps10
  go_wp2_with (first | (go_at_call 17; refine (unhide HS _).mono ?_; rintro e w' ⟨rfl, rfl⟩) | (go_at_call 18; refine (l1Known_yes _ _ (by omega) (by omega)).mono ?_; rintro e w' ⟨rfl, rfl⟩) | (go_at_call 18; refine (l1Known_no _ _ (by omega)).mono ?_; rintro e w' ⟨rfl, rfl⟩) | (go_at_call 19; refine (l1In_yes _ _ _ _ (by omega) (by omega)).mono ?_; rintro e w' ⟨rfl, rfl⟩) | (go_at_call 19; refine (l1In_no _ _ _ _ (by omega)).mono ?_; rintro e w' ⟨rfl, rfl⟩))
  all_goals
    go_ret
    exact ⟨by first | rfl | simp, ((Below.refl _ _).alloc (Nat.le_refl _) _)⟩

set_option maxHeartbeats 4000000 in
theorem specGood_cT (k a b c : Int) (s : ByteArray) (g off n cap : Nat) (w : World) (hs : s.size ≤ 1048576) (hn : n ≤ 1048576) (m lo hi : Int)
    (HS : Hid (∀ w : World, Calls Tryd.prog 17 #[.int .i64 k] w fun e w' => e = .returned (.tuple #[.int .i64 m, .int .i64 lo, .int .i64 hi]) ∧ w' = w))
    (hm : 0 ≤ m) (ha0 : 0 ≤ a) (ha1 : a ≤ 4611686018427387903) (hb0 : 0 ≤ b) (hb1 : b ≤ 4611686018427387903) (hc0 : 0 ≤ c) (hc1 : c ≤ 4611686018427387903) (hl1 : lo ≤ s.size) (hl2 : (s.size : Int) ≤ hi)
    (hk8 : (k != 8) = false) (h3 : m < 3) (hc : (c != 0) = true) :
    Calls Tryd.prog 10 #[fv k a b c true s g off n cap] w fun e w' => e = .returned (.bool false) ∧ Below w.heap.size w w' := by
  go_enter Tryd.func10, Tryd.ntmps10
  go_wp2_with (first | (go_at_call 17; refine (unhide HS _).mono ?_; rintro e w' ⟨rfl, rfl⟩) | (go_at_call 18; refine (l1Known_yes _ _ (by omega) (by omega)).mono ?_; rintro e w' ⟨rfl, rfl⟩) | (go_at_call 18; refine (l1Known_no _ _ (by omega)).mono ?_; rintro e w' ⟨rfl, rfl⟩) | (go_at_call 19; refine (l1In_yes _ _ _ _ (by omega) (by omega)).mono ?_; rintro e w' ⟨rfl, rfl⟩) | (go_at_call 19; refine (l1In_no _ _ _ _ (by omega)).mono ?_; rintro e w' ⟨rfl, rfl⟩))
  all_goals
    go_ret
    exact ⟨by first | rfl | simp, ((Below.refl _ _).alloc (Nat.le_refl _) _)⟩

set_option maxHeartbeats 4000000 in
theorem specGood_bT (k a b c : Int) (s : ByteArray) (g off n cap : Nat) (w : World) (hs : s.size ≤ 1048576) (hn : n ≤ 1048576) (m lo hi : Int)
    (HS : Hid (∀ w : World, Calls Tryd.prog 17 #[.int .i64 k] w fun e w' => e = .returned (.tuple #[.int .i64 m, .int .i64 lo, .int .i64 hi]) ∧ w' = w))
    (hm : 0 ≤ m) (ha0 : 0 ≤ a) (ha1 : a ≤ 4611686018427387903) (hb0 : 0 ≤ b) (hb1 : b ≤ 4611686018427387903) (hc0 : 0 ≤ c) (hc1 : c ≤ 4611686018427387903) (hl1 : lo ≤ s.size) (hl2 : (s.size : Int) ≤ hi)
    (hk8 : (k != 8) = false) (hc : c = 0) (h2 : m < 2) (hb : (b != 0) = true) :
    Calls Tryd.prog 10 #[fv k a b c true s g off n cap] w fun e w' => e = .returned (.bool false) ∧ Below w.heap.size w w' := by
  subst hc
  have h3 : m < 3 := by omega
  go_enter Tryd.func10, Tryd.ntmps10
  go_wp2_with (first | (go_at_call 17; refine (unhide HS _).mono ?_; rintro e w' ⟨rfl, rfl⟩) | (go_at_call 18; refine (l1Known_yes _ _ (by omega) (by omega)).mono ?_; rintro e w' ⟨rfl, rfl⟩) | (go_at_call 18; refine (l1Known_no _ _ (by omega)).mono ?_; rintro e w' ⟨rfl, rfl⟩) | (go_at_call 19; refine (l1In_yes _ _ _ _ (by omega) (by omega)).mono ?_; rintro e w' ⟨rfl, rfl⟩) | (go_at_call 19; refine (l1In_no _ _ _ _ (by omega)).mono ?_; rintro e w' ⟨rfl, rfl⟩))
  all_goals
    go_ret
    exact ⟨by first | rfl | simp, ((Below.refl _ _).alloc (Nat.le_refl _) _)⟩

set_option maxHeartbeats 4000000 in
theorem specGood_aT (k a b c : Int) (s : ByteArray) (g off n cap : Nat) (w : World) (hs : s.size ≤ 1048576) (hn : n ≤ 1048576) (m lo hi : Int)
    (HS : Hid (∀ w : World, Calls Tryd.prog 17 #[.int .i64 k] w fun e w' => e = .returned (.tuple #[.int .i64 m, .int .i64 lo, .int .i64 hi]) ∧ w' = w))
    (hm : 0 ≤ m) (ha0 : 0 ≤ a) (ha1 : a ≤ 4611686018427387903) (hb0 : 0 ≤ b) (hb1 : b ≤ 4611686018427387903) (hc0 : 0 ≤ c) (hc1 : c ≤ 4611686018427387903) (hl1 : lo ≤ s.size) (hl2 : (s.size : Int) ≤ hi)
    (hk8 : (k != 8) = false) (h1 : m < 1) (hc : c = 0) (hb : b = 0) (ha : (a != 0) = true) :
    Calls Tryd.prog 10 #[fv k a b c true s g off n cap] w fun e w' => e = .returned (.bool false) ∧ Below w.heap.size w w' := by
  subst hc hb
  have h3 : m < 3 := by omega
  have h2 : m < 2 := by omega
  go_enter Tryd.func10, Tryd.ntmps10
  go_wp2_with (first | (go_at_call 17; refine (unhide HS _).mono ?_; rintro e w' ⟨rfl, rfl⟩) | (go_at_call 18; refine (l1Known_yes _ _ (by omega) (by omega)).mono ?_; rintro e w' ⟨rfl, rfl⟩) | (go_at_call 18; refine (l1Known_no _ _ (by omega)).mono ?_; rintro e w' ⟨rfl, rfl⟩) | (go_at_call 19; refine (l1In_yes _ _ _ _ (by omega) (by omega)).mono ?_; rintro e w' ⟨rfl, rfl⟩) | (go_at_call 19; refine (l1In_no _ _ _ _ (by omega)).mono ?_; rintro e w' ⟨rfl, rfl⟩))
  all_goals
    go_ret
    exact ⟨by first | rfl | simp, ((Below.refl _ _).alloc (Nat.le_refl _) _)⟩

set_option maxHeartbeats 4000000 in
theorem specGood_nT (k a b c : Int) (s : ByteArray) (g off n cap : Nat) (w : World) (hs : s.size ≤ 1048576) (hn : n ≤ 1048576) (m lo hi : Int)
    (HS : Hid (∀ w : World, Calls Tryd.prog 17 #[.int .i64 k] w fun e w' => e = .returned (.tuple #[.int .i64 m, .int .i64 lo, .int .i64 hi]) ∧ w' = w))
    (hm : 0 ≤ m) (ha0 : 0 ≤ a) (ha1 : a ≤ 4611686018427387903) (hb0 : 0 ≤ b) (hb1 : b ≤ 4611686018427387903) (hc0 : 0 ≤ c) (hc1 : c ≤ 4611686018427387903) (hl1 : lo ≤ s.size) (hl2 : (s.size : Int) ≤ hi)
    (hk8 : (k != 8) = false) (hcz : m < 3 → c = 0) (hbz : m < 2 → b = 0) (haz : m < 1 → a = 0) (h2 : (k == 2) = false) (hn0 : (0 : Int) < n) :
    Calls Tryd.prog 10 #[fv k a b c true s g off n cap] w fun e w' => e = .returned (.bool false) ∧ Below w.heap.size w w' := by
  go_enter Tryd.func10, Tryd.ntmps10
  go_wp2_with (first | (go_at_call 17; refine (unhide HS _).mono ?_; rintro e w' ⟨rfl, rfl⟩) | (go_at_call 18; refine (l1Known_yes _ _ (by omega) (by omega)).mono ?_; rintro e w' ⟨rfl, rfl⟩) | (go_at_call 18; refine (l1Known_no _ _ (by omega)).mono ?_; rintro e w' ⟨rfl, rfl⟩) | (go_at_call 19; refine (l1In_yes _ _ _ _ (by omega) (by omega)).mono ?_; rintro e w' ⟨rfl, rfl⟩) | (go_at_call 19; refine (l1In_no _ _ _ _ (by omega)).mono ?_; rintro e w' ⟨rfl, rfl⟩))
  all_goals
    go_ret
    exact ⟨by first | rfl | simp, ((Below.refl _ _).alloc (Nat.le_refl _) _)⟩

end Go.Proofs.YtcnpbcigndcheaaDoor
