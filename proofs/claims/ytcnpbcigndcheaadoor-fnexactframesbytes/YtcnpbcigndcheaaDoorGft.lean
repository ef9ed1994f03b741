/-
  Contract: the model's look at a frame, whole.
-/
import Derived.Test.YtcnpbcigndcheaaDoorGfs
namespace Go.Proofs.YtcnpbcigndcheaaDoor
open Go.ChangeShapes Go.WideShapes Go.ChangeAt Go.RowKit
set_option linter.unusedVariables false

set_option maxHeartbeats 4000000 in
theorem specGood_2z (a : Int) (s : ByteArray) (g off n cap : Nat) (w : World) (hs : s.size ≤ 1048576) (hn : n ≤ 1048576) (ha0 : 0 ≤ a) (ha1 : a ≤ 4611686018427387903) (hl1 : 0 ≤ (s.size : Int)) (hl2 : (s.size : Int) ≤ 0) :
    Calls Tryd.prog 10 #[fv 2 a 0 0 false s g off 0 cap] w fun e w' => e = .returned (.bool false) ∧ Below w.heap.size w w' := by
  have HS : Hid (∀ w : World, Calls Tryd.prog 17 #[.int .i64 2] w fun e w' => e = .returned (.tuple #[.int .i64 1, .int .i64 0, .int .i64 0]) ∧ w' = w) := fun w => l1Shape_any 2 w
  go_enter Tryd.func10, Tryd.ntmps10
  go_wp2_with (first | (go_at_call 17; refine (unhide HS _).mono ?_; rintro e w' ⟨rfl, rfl⟩) | (go_at_call 18; refine (l1Known_yes _ _ (by omega) (by omega)).mono ?_; rintro e w' ⟨rfl, rfl⟩) | (go_at_call 18; refine (l1Known_no _ _ (by omega)).mono ?_; rintro e w' ⟨rfl, rfl⟩) | (go_at_call 19; refine (l1In_yes _ _ _ _ (by omega) (by omega)).mono ?_; rintro e w' ⟨rfl, rfl⟩) | (go_at_call 19; refine (l1In_no _ _ _ _ (by omega)).mono ?_; rintro e w' ⟨rfl, rfl⟩))
  all_goals
    go_ret
    exact ⟨by first | rfl | simp, ((Below.refl _ _).alloc (Nat.le_refl _) _)⟩

set_option maxHeartbeats 4000000 in
theorem specGood_2f (a : Int) (s : ByteArray) (g off n cap : Nat) (w : World) (hs : s.size ≤ 1048576) (hn : n ≤ 1048576) (ha0 : 0 ≤ a) (ha1 : a ≤ 4611686018427387903) (hl1 : 0 ≤ (s.size : Int)) (hl2 : (s.size : Int) ≤ 0) (hn0 : (0 : Int) < n) (HRG : Hid (Calls Tryd.prog 20 #[.slice (some ⟨g, off, none⟩) n cap] (w.alloc (.cells #[.int .i64 2, .int .i64 a, .int .i64 0, .int .i64 0, .bool false, .string s, .slice (some ⟨g, off, none⟩) n cap] 36)) fun e w' => e = .returned (.bool false) ∧ Below (w.heap.size + 1) (w.alloc (.cells #[.int .i64 2, .int .i64 a, .int .i64 0, .int .i64 0, .bool false, .string s, .slice (some ⟨g, off, none⟩) n cap] 36)) w')) :
    Calls Tryd.prog 10 #[fv 2 a 0 0 false s g off n cap] w fun e w' => e = .returned (.bool false) ∧ Below w.heap.size w w' := by
  have HS : Hid (∀ w : World, Calls Tryd.prog 17 #[.int .i64 2] w fun e w' => e = .returned (.tuple #[.int .i64 1, .int .i64 0, .int .i64 0]) ∧ w' = w) := fun w => l1Shape_any 2 w
  go_enter Tryd.func10, Tryd.ntmps10
  go_wp2_with (first | (go_at_call 17; refine (unhide HS _).mono ?_; rintro e w' ⟨rfl, rfl⟩) | (go_at_call 18; refine (l1Known_yes _ _ (by omega) (by omega)).mono ?_; rintro e w' ⟨rfl, rfl⟩) | (go_at_call 18; refine (l1Known_no _ _ (by omega)).mono ?_; rintro e w' ⟨rfl, rfl⟩) | (go_at_call 19; refine (l1In_yes _ _ _ _ (by omega) (by omega)).mono ?_; rintro e w' ⟨rfl, rfl⟩) | (go_at_call 19; refine (l1In_no _ _ _ _ (by omega)).mono ?_; rintro e w' ⟨rfl, rfl⟩) | (go_at_call 20; refine (unhide HRG).mono ?_; rintro e w' ⟨rfl, hbr⟩; have hc0 : w'.cell? ⟨w.heap.size, 0, none⟩ = some (.int .i64 2) := (hbr.cell (p := ⟨w.heap.size, 0, none⟩) (by simp)).trans (by simp)))
  all_goals
    go_ret
    exact ⟨by first | rfl | simp, (((Below.refl _ _).alloc (Nat.le_refl _) _).trans (hbr.mono (by simp)))⟩

set_option maxHeartbeats 4000000 in
theorem specGood_2t (a : Int) (s : ByteArray) (g off n cap : Nat) (w : World) (hs : s.size ≤ 1048576) (hn : n ≤ 1048576) (ha0 : 0 ≤ a) (ha1 : a ≤ 4611686018427387903) (hl1 : 0 ≤ (s.size : Int)) (hl2 : (s.size : Int) ≤ 0) (hn0 : (0 : Int) < n) (HRG : Hid (Calls Tryd.prog 20 #[.slice (some ⟨g, off, none⟩) n cap] (w.alloc (.cells #[.int .i64 2, .int .i64 a, .int .i64 0, .int .i64 0, .bool false, .string s, .slice (some ⟨g, off, none⟩) n cap] 36)) fun e w' => e = .returned (.bool true) ∧ Below (w.heap.size + 1) (w.alloc (.cells #[.int .i64 2, .int .i64 a, .int .i64 0, .int .i64 0, .bool false, .string s, .slice (some ⟨g, off, none⟩) n cap] 36)) w')) :
    Calls Tryd.prog 10 #[fv 2 a 0 0 false s g off n cap] w fun e w' => e = .returned (.bool true) ∧ Below w.heap.size w w' := by
  have HS : Hid (∀ w : World, Calls Tryd.prog 17 #[.int .i64 2] w fun e w' => e = .returned (.tuple #[.int .i64 1, .int .i64 0, .int .i64 0]) ∧ w' = w) := fun w => l1Shape_any 2 w
  go_enter Tryd.func10, Tryd.ntmps10
  go_wp2_with (first | (go_at_call 17; refine (unhide HS _).mono ?_; rintro e w' ⟨rfl, rfl⟩) | (go_at_call 18; refine (l1Known_yes _ _ (by omega) (by omega)).mono ?_; rintro e w' ⟨rfl, rfl⟩) | (go_at_call 18; refine (l1Known_no _ _ (by omega)).mono ?_; rintro e w' ⟨rfl, rfl⟩) | (go_at_call 19; refine (l1In_yes _ _ _ _ (by omega) (by omega)).mono ?_; rintro e w' ⟨rfl, rfl⟩) | (go_at_call 19; refine (l1In_no _ _ _ _ (by omega)).mono ?_; rintro e w' ⟨rfl, rfl⟩) | (go_at_call 20; refine (unhide HRG).mono ?_; rintro e w' ⟨rfl, hbr⟩; have hc0 : w'.cell? ⟨w.heap.size, 0, none⟩ = some (.int .i64 2) := (hbr.cell (p := ⟨w.heap.size, 0, none⟩) (by simp)).trans (by simp)))
  all_goals
    go_ret
    exact ⟨by first | rfl | simp, (((Below.refl _ _).alloc (Nat.le_refl _) _).trans (hbr.mono (by simp)))⟩

set_option maxHeartbeats 4000000 in
theorem specGood_6 (a : Int) (s : ByteArray) (g off n cap : Nat) (w : World) (hs : s.size ≤ 1048576) (hn : n ≤ 1048576) (ha0 : 0 ≤ a) (ha1 : a ≤ 4611686018427387903) (hl1 : 0 ≤ (s.size : Int)) (hl2 : (s.size : Int) ≤ 200) :
    Calls Tryd.prog 10 #[fv 6 a 0 0 false s g off 0 cap] w fun e w' => e = .returned (.bool (decide (a ≤ 4611686018427387903 - s.size))) ∧ Below w.heap.size w w' := by
  have HS : Hid (∀ w : World, Calls Tryd.prog 17 #[.int .i64 6] w fun e w' => e = .returned (.tuple #[.int .i64 1, .int .i64 0, .int .i64 200]) ∧ w' = w) := fun w => l1Shape_any 6 w
  go_enter Tryd.func10, Tryd.ntmps10
  go_wp2_with (first | (go_at_call 17; refine (unhide HS _).mono ?_; rintro e w' ⟨rfl, rfl⟩) | (go_at_call 18; refine (l1Known_yes _ _ (by omega) (by omega)).mono ?_; rintro e w' ⟨rfl, rfl⟩) | (go_at_call 18; refine (l1Known_no _ _ (by omega)).mono ?_; rintro e w' ⟨rfl, rfl⟩) | (go_at_call 19; refine (l1In_yes _ _ _ _ (by omega) (by omega)).mono ?_; rintro e w' ⟨rfl, rfl⟩) | (go_at_call 19; refine (l1In_no _ _ _ _ (by omega)).mono ?_; rintro e w' ⟨rfl, rfl⟩))
  all_goals
    go_ret
    exact ⟨by first | rfl | simp, ((Below.refl _ _).alloc (Nat.le_refl _) _)⟩

set_option maxHeartbeats 4000000 in
theorem specGood_8F (a b : Int) (s : ByteArray) (g off n cap : Nat) (w : World) (hs : s.size ≤ 1048576) (hn : n ≤ 1048576) (ha0 : 0 ≤ a) (ha1 : a ≤ 4611686018427387903) (hb0 : 0 ≤ b) (hb1 : b ≤ 4611686018427387903) (hl1 : 0 ≤ (s.size : Int)) (hl2 : (s.size : Int) ≤ 200) :
    Calls Tryd.prog 10 #[fv 8 a b 0 false s g off 0 cap] w fun e w' => e = .returned (.bool (decide (b ≤ 4611686018427387903 - s.size))) ∧ Below w.heap.size w w' := by
  have HS : Hid (∀ w : World, Calls Tryd.prog 17 #[.int .i64 8] w fun e w' => e = .returned (.tuple #[.int .i64 2, .int .i64 0, .int .i64 200]) ∧ w' = w) := fun w => l1Shape_any 8 w
  go_enter Tryd.func10, Tryd.ntmps10
  go_wp2_with (first | (go_at_call 17; refine (unhide HS _).mono ?_; rintro e w' ⟨rfl, rfl⟩) | (go_at_call 18; refine (l1Known_yes _ _ (by omega) (by omega)).mono ?_; rintro e w' ⟨rfl, rfl⟩) | (go_at_call 18; refine (l1Known_no _ _ (by omega)).mono ?_; rintro e w' ⟨rfl, rfl⟩) | (go_at_call 19; refine (l1In_yes _ _ _ _ (by omega) (by omega)).mono ?_; rintro e w' ⟨rfl, rfl⟩) | (go_at_call 19; refine (l1In_no _ _ _ _ (by omega)).mono ?_; rintro e w' ⟨rfl, rfl⟩))
  all_goals
    go_ret
    exact ⟨by first | rfl | simp, ((Below.refl _ _).alloc (Nat.le_refl _) _)⟩

set_option maxHeartbeats 4000000 in
theorem specGood_8T (a b : Int) (s : ByteArray) (g off n cap : Nat) (w : World) (hs : s.size ≤ 1048576) (hn : n ≤ 1048576) (ha0 : 0 ≤ a) (ha1 : a ≤ 4611686018427387903) (hb0 : 0 ≤ b) (hb1 : b ≤ 4611686018427387903) (hl1 : 0 ≤ (s.size : Int)) (hl2 : (s.size : Int) ≤ 200) :
    Calls Tryd.prog 10 #[fv 8 a b 0 true s g off 0 cap] w fun e w' => e = .returned (.bool (decide (b ≤ 4611686018427387903 - s.size))) ∧ Below w.heap.size w w' := by
  have HS : Hid (∀ w : World, Calls Tryd.prog 17 #[.int .i64 8] w fun e w' => e = .returned (.tuple #[.int .i64 2, .int .i64 0, .int .i64 200]) ∧ w' = w) := fun w => l1Shape_any 8 w
  go_enter Tryd.func10, Tryd.ntmps10
  go_wp2_with (first | (go_at_call 17; refine (unhide HS _).mono ?_; rintro e w' ⟨rfl, rfl⟩) | (go_at_call 18; refine (l1Known_yes _ _ (by omega) (by omega)).mono ?_; rintro e w' ⟨rfl, rfl⟩) | (go_at_call 18; refine (l1Known_no _ _ (by omega)).mono ?_; rintro e w' ⟨rfl, rfl⟩) | (go_at_call 19; refine (l1In_yes _ _ _ _ (by omega) (by omega)).mono ?_; rintro e w' ⟨rfl, rfl⟩) | (go_at_call 19; refine (l1In_no _ _ _ _ (by omega)).mono ?_; rintro e w' ⟨rfl, rfl⟩))
  all_goals
    go_ret
    exact ⟨by first | rfl | simp, ((Below.refl _ _).alloc (Nat.le_refl _) _)⟩

set_option maxHeartbeats 4000000 in
theorem specGood_24y (a b c : Int) (s : ByteArray) (g off n cap : Nat) (w : World) (hs : s.size ≤ 1048576) (hn : n ≤ 1048576) (ha0 : 0 ≤ a) (ha1 : a ≤ 4611686018427387903) (hb0 : 0 ≤ b) (hb1 : b ≤ 4611686018427387903) (hc0 : 0 ≤ c) (hc1 : c ≤ 4611686018427387903) (hl1 : 1 ≤ (s.size : Int)) (hl2 : (s.size : Int) ≤ 20) (hba : b ≤ a) :
    Calls Tryd.prog 10 #[fv 24 a b c false s g off 0 cap] w fun e w' => e = .returned (.bool (decide (c ≤ 255))) ∧ Below w.heap.size w w' := by
  have HS : Hid (∀ w : World, Calls Tryd.prog 17 #[.int .i64 24] w fun e w' => e = .returned (.tuple #[.int .i64 3, .int .i64 1, .int .i64 20]) ∧ w' = w) := fun w => l1Shape_any 24 w
  go_enter Tryd.func10, Tryd.ntmps10
  go_wp2_with (first | (go_at_call 17; refine (unhide HS _).mono ?_; rintro e w' ⟨rfl, rfl⟩) | (go_at_call 18; refine (l1Known_yes _ _ (by omega) (by omega)).mono ?_; rintro e w' ⟨rfl, rfl⟩) | (go_at_call 18; refine (l1Known_no _ _ (by omega)).mono ?_; rintro e w' ⟨rfl, rfl⟩) | (go_at_call 19; refine (l1In_yes _ _ _ _ (by omega) (by omega)).mono ?_; rintro e w' ⟨rfl, rfl⟩) | (go_at_call 19; refine (l1In_no _ _ _ _ (by omega)).mono ?_; rintro e w' ⟨rfl, rfl⟩))
  all_goals
    go_ret
    exact ⟨by first | rfl | simp, ((Below.refl _ _).alloc (Nat.le_refl _) _)⟩

set_option maxHeartbeats 4000000 in
theorem specGood_24n (a b c : Int) (s : ByteArray) (g off n cap : Nat) (w : World) (hs : s.size ≤ 1048576) (hn : n ≤ 1048576) (ha0 : 0 ≤ a) (ha1 : a ≤ 4611686018427387903) (hb0 : 0 ≤ b) (hb1 : b ≤ 4611686018427387903) (hc0 : 0 ≤ c) (hc1 : c ≤ 4611686018427387903) (hl1 : 1 ≤ (s.size : Int)) (hl2 : (s.size : Int) ≤ 20) (hba : ¬ b ≤ a) :
    Calls Tryd.prog 10 #[fv 24 a b c false s g off 0 cap] w fun e w' => e = .returned (.bool false) ∧ Below w.heap.size w w' := by
  have HS : Hid (∀ w : World, Calls Tryd.prog 17 #[.int .i64 24] w fun e w' => e = .returned (.tuple #[.int .i64 3, .int .i64 1, .int .i64 20]) ∧ w' = w) := fun w => l1Shape_any 24 w
  have hd : decide (b ≤ a) = false := by simpa using hba
  go_enter Tryd.func10, Tryd.ntmps10
  go_wp2_with (first | (go_at_call 17; refine (unhide HS _).mono ?_; rintro e w' ⟨rfl, rfl⟩) | (go_at_call 18; refine (l1Known_yes _ _ (by omega) (by omega)).mono ?_; rintro e w' ⟨rfl, rfl⟩) | (go_at_call 18; refine (l1Known_no _ _ (by omega)).mono ?_; rintro e w' ⟨rfl, rfl⟩) | (go_at_call 19; refine (l1In_yes _ _ _ _ (by omega) (by omega)).mono ?_; rintro e w' ⟨rfl, rfl⟩) | (go_at_call 19; refine (l1In_no _ _ _ _ (by omega)).mono ?_; rintro e w' ⟨rfl, rfl⟩))
  all_goals
    go_ret
    exact ⟨by first | rfl | simp, ((Below.refl _ _).alloc (Nat.le_refl _) _)⟩

set_option maxHeartbeats 4000000 in
theorem specGood_oth (k a b c : Int) (s : ByteArray) (g off n cap : Nat) (w : World) (hs : s.size ≤ 1048576) (hn : n ≤ 1048576) (m lo hi : Int)
    (HS : Hid (∀ w : World, Calls Tryd.prog 17 #[.int .i64 k] w fun e w' => e = .returned (.tuple #[.int .i64 m, .int .i64 lo, .int .i64 hi]) ∧ w' = w))
    (hm : 0 ≤ m) (ha0 : 0 ≤ a) (ha1 : a ≤ 4611686018427387903) (hb0 : 0 ≤ b) (hb1 : b ≤ 4611686018427387903) (hc0 : 0 ≤ c) (hc1 : c ≤ 4611686018427387903) (hl1 : lo ≤ s.size) (hl2 : (s.size : Int) ≤ hi)
    (hcz : m < 3 → c = 0) (hbz : m < 2 → b = 0) (haz : m < 1 → a = 0) (e2 : (k == 2) = false) (e6 : (k == 6) = false) (e8 : (k == 8) = false) (e24 : (k == 24) = false) :
    Calls Tryd.prog 10 #[fv k a b c false s g off 0 cap] w fun e w' => e = .returned (.bool true) ∧ Below w.heap.size w w' := by
  go_enter Tryd.func10, Tryd.ntmps10
  go_wp2_with (first | (go_at_call 17; refine (unhide HS _).mono ?_; rintro e w' ⟨rfl, rfl⟩) | (go_at_call 18; refine (l1Known_yes _ _ (by omega) (by omega)).mono ?_; rintro e w' ⟨rfl, rfl⟩) | (go_at_call 18; refine (l1Known_no _ _ (by omega)).mono ?_; rintro e w' ⟨rfl, rfl⟩) | (go_at_call 19; refine (l1In_yes _ _ _ _ (by omega) (by omega)).mono ?_; rintro e w' ⟨rfl, rfl⟩) | (go_at_call 19; refine (l1In_no _ _ _ _ (by omega)).mono ?_; rintro e w' ⟨rfl, rfl⟩))
  all_goals
    go_ret
    exact ⟨by first | rfl | simp, ((Below.refl _ _).alloc (Nat.le_refl _) _)⟩

end Go.Proofs.YtcnpbcigndcheaaDoor
