/-
  Contracts: NumberOf of the model, whole.
-/
import Derived.Test.YtiefmgljdibnnaaL6o
namespace Go.Proofs.Ytiefmgljdibnnaa
open Go.ChangeShapes Go.WideShapes Go.ChangeAt Go.RowKit
set_option linter.unusedVariables false
set_option maxRecDepth 100000

theorem specNear (largest : Int) (next low k : Nat) (hL : largest + 1 = (next : Int)) (h0 : 1 ≤ k) (h4 : k ≤ 4) (hn : next ≤ 4611686018427387903) (hl : low < 256 ^ k) (w : World) :
    Calls Try.prog 21 #[.int .i64 largest, .int .i64 low, .int .i64 k] w fun e w' => e = .returned (.int .i64 (nrF next low (256 ^ k) : Nat)) ∧ w' = w := by
  rw [nrF_def]
  rcases four k h0 h4 with rfl | rfl | rfl | rfl
  · have hA := andNot_pow next 8 (by omega) (by omega)
    have hO := orP 0 (256 ^ 1) 8 (by decide) (by omega) next low hn hl
    exact l6n1 largest next low (next / 256 ^ 1 * 256 ^ 1) (next / 256 ^ 1 * 256 ^ 1 + low) hL hA hO hn (by simp only [show (256 : Nat) ^ 1 = 256 by decide] at hl ⊢; omega) w
  · have hA := andNot_pow next 16 (by omega) (by omega)
    have hO := orP 0 (256 ^ 2) 16 (by decide) (by omega) next low hn hl
    exact l6n2 largest next low (next / 256 ^ 2 * 256 ^ 2) (next / 256 ^ 2 * 256 ^ 2 + low) hL hA hO hn (by simp only [show (256 : Nat) ^ 2 = 65536 by decide] at hl ⊢; omega) w
  · have hA := andNot_pow next 24 (by omega) (by omega)
    have hO := orP 0 (256 ^ 3) 24 (by decide) (by omega) next low hn hl
    exact l6n3 largest next low (next / 256 ^ 3 * 256 ^ 3) (next / 256 ^ 3 * 256 ^ 3 + low) hL hA hO hn (by simp only [show (256 : Nat) ^ 3 = 16777216 by decide] at hl ⊢; omega) w
  · have hA := andNot_pow next 32 (by omega) (by omega)
    have hO := orP 0 (256 ^ 4) 32 (by decide) (by omega) next low hn hl
    exact l6n4 largest next low (next / 256 ^ 4 * 256 ^ 4) (next / 256 ^ 4 * 256 ^ 4 + low) hL hA hO hn (by simp only [show (256 : Nat) ^ 4 = 4294967296 by decide] at hl ⊢; omega) w
set_option maxHeartbeats 1000000 in
theorem specNO_ok (largest low size : Int) (h : 1 ≤ size ∧ size ≤ 4 ∧ -1 ≤ largest ∧ largest < 4611686018427387903 ∧ 0 ≤ low ∧ low < ((256 ^ size.toNat : Nat) : Int)) (w : World) :
    Calls Try.prog 8 #[.int .i64 largest, .int .i64 low, .int .i64 size] w fun e w' => e = .returned (.tuple #[.int .i64 (noF largest low size : Nat), .bool true]) ∧ Below w.heap.size w w' := by
  obtain ⟨h0, h1, h2, h3, h4, h5⟩ := h
  unfold noF
  obtain ⟨k, rfl⟩ : ∃ k : Nat, size = (k : Int) := ⟨size.toNat, by omega⟩
  obtain ⟨l, rfl⟩ : ∃ l : Nat, low = (l : Int) := ⟨low.toNat, by omega⟩
  obtain ⟨m, hm⟩ : ∃ m : Nat, largest + 1 = (m : Int) := ⟨(largest + 1).toNat, by omega⟩
  rw [hm]
  simp only [Int.toNat_natCast] at h5 ⊢
  have HA : Hid (∀ W : World, Calls Try.prog 20 #[.int .i64 largest, .int .i64 (-1), .int .i64 4611686018427387902] W fun e w' => e = .returned (.bool true) ∧ w' = W) := fun W => by
    have h9 := inB largest (-1) 4611686018427387902 W
    rw [decide_eq_true h2, decide_eq_true (show largest ≤ 4611686018427387902 by omega)] at h9
    exact h9
  have HB : Hid (∀ W : World, Calls Try.prog 20 #[.int .i64 (k : Int), .int .i64 1, .int .i64 4] W fun e w' => e = .returned (.bool true) ∧ w' = W) := fun W => by
    have h9 := inB k 1 4 W
    rw [decide_eq_true h0, decide_eq_true h1] at h9
    exact h9
  have HC : Hid (∀ W : World, Calls Try.prog 20 #[.int .i64 (l : Int), .int .i64 0, .int .i64 ((256 ^ k : Nat) - 1)] W fun e w' => e = .returned (.bool true) ∧ w' = W) := fun W => by
    have h9 := inB l 0 ((256 ^ k : Nat) - 1) W
    rw [decide_eq_true h4, decide_eq_true (show (l : Int) ≤ ((256 ^ k : Nat) : Int) - 1 by omega)] at h9
    exact h9
  have HN := hide (specNear largest m l k hm (by omega) (by omega) (by omega) (by omega))
  generalize nrF m l (256 ^ k) = r at *
  have hk4 := four k (by omega) (by omega)
  clear h0 h1 h5
  rcases hk4 with rfl | rfl | rfl | rfl
  all_goals
    go_enter Try.func8, Try.ntmps8
    go_wp2_with fail
    refine (unhide HA _).mono ?_
    rintro e w1 ⟨rfl, e1⟩
    rw [e1]
    clear e1 w1
    go_wp2_with fail
    refine (unhide HB _).mono ?_
    rintro e w1 ⟨rfl, e1⟩
    rw [e1]
    clear e1 w1
    go_wp2_with fail
    refine (unhide HC _).mono ?_
    rintro e w1 ⟨rfl, e1⟩
    rw [e1]
    clear e1 w1
    go_wp2_with fail
    refine (unhide HN _).mono ?_
    rintro e w1 ⟨rfl, e1⟩
    rw [e1]
    clear e1 w1
    go_wp2
    go_ret2
    exact ⟨rfl, Below.refl _ _⟩
set_option maxHeartbeats 1000000 in
theorem specNO_no (largest low size : Int) (h : ¬ (1 ≤ size ∧ size ≤ 4 ∧ -1 ≤ largest ∧ largest < 4611686018427387903 ∧ 0 ≤ low ∧ low < ((256 ^ size.toNat : Nat) : Int))) (ka : (Lit.int .i64 largest).wf = true) (kb : (Lit.int .i64 low).wf = true) (kc : (Lit.int .i64 size).wf = true) (w : World) :
    Calls Try.prog 8 #[.int .i64 largest, .int .i64 low, .int .i64 size] w fun e w' => e = .returned (.tuple #[.int .i64 0, .bool false]) ∧ Below w.heap.size w w' := by
  clear ka kb kc
  by_cases h2 : -1 ≤ largest ∧ largest ≤ 4611686018427387902
  · have HA : Hid (∀ W : World, Calls Try.prog 20 #[.int .i64 largest, .int .i64 (-1), .int .i64 4611686018427387902] W fun e w' => e = .returned (.bool true) ∧ w' = W) := fun W => by
      have h9 := inB largest (-1) 4611686018427387902 W
      rw [decide_eq_true h2.1, decide_eq_true h2.2] at h9
      exact h9
    by_cases h0 : 1 ≤ size ∧ size ≤ 4
    · obtain ⟨k, rfl⟩ : ∃ k : Nat, size = (k : Int) := ⟨size.toNat, by omega⟩
      simp only [Int.toNat_natCast] at h
      have HB : Hid (∀ W : World, Calls Try.prog 20 #[.int .i64 (k : Int), .int .i64 1, .int .i64 4] W fun e w' => e = .returned (.bool true) ∧ w' = W) := fun W => by
        have h9 := inB k 1 4 W
        rw [decide_eq_true h0.1, decide_eq_true h0.2] at h9
        exact h9
      have HC : Hid (∀ W : World, Calls Try.prog 20 #[.int .i64 low, .int .i64 0, .int .i64 ((256 ^ k : Nat) - 1)] W fun e w' => e = .returned (.bool false) ∧ w' = W) := fun W => by
        have h9 := inB low 0 ((256 ^ k : Nat) - 1) W
        rw [show (decide (0 ≤ low) && decide (low ≤ ((256 ^ k : Nat) : Int) - 1)) = false by
          rw [← Bool.decide_and]; exact decide_eq_false (by omega)] at h9
        exact h9
      have hk4 := four k (by omega) (by omega)
      clear h h0
      rcases hk4 with rfl | rfl | rfl | rfl
      all_goals
        go_enter Try.func8, Try.ntmps8
        go_wp2_with fail
        refine (unhide HA _).mono ?_
        rintro e w1 ⟨rfl, e1⟩
        rw [e1]
        clear e1 w1
        go_wp2_with fail
        refine (unhide HB _).mono ?_
        rintro e w1 ⟨rfl, e1⟩
        rw [e1]
        clear e1 w1
        go_wp2_with fail
        refine (unhide HC _).mono ?_
        rintro e w1 ⟨rfl, e1⟩
        rw [e1]
        clear e1 w1
        go_wp2
        go_ret2
        exact ⟨rfl, Below.refl _ _⟩
    · have HB : Hid (∀ W : World, Calls Try.prog 20 #[.int .i64 size, .int .i64 1, .int .i64 4] W fun e w' => e = .returned (.bool false) ∧ w' = W) := fun W => by
        have h9 := inB size 1 4 W
        rw [show (decide (1 ≤ size) && decide (size ≤ 4)) = false by
          rw [← Bool.decide_and]; exact decide_eq_false h0] at h9
        exact h9
      clear h h0
      go_enter Try.func8, Try.ntmps8
      go_wp2_with fail
      refine (unhide HA _).mono ?_
      rintro e w1 ⟨rfl, e1⟩
      rw [e1]
      clear e1 w1
      go_wp2_with fail
      refine (unhide HB _).mono ?_
      rintro e w1 ⟨rfl, e1⟩
      rw [e1]
      clear e1 w1
      go_wp2
      go_ret2
      exact ⟨rfl, Below.refl _ _⟩
  · have HA : Hid (∀ W : World, Calls Try.prog 20 #[.int .i64 largest, .int .i64 (-1), .int .i64 4611686018427387902] W fun e w' => e = .returned (.bool false) ∧ w' = W) := fun W => by
      have h9 := inB largest (-1) 4611686018427387902 W
      rw [show (decide (-1 ≤ largest) && decide (largest ≤ 4611686018427387902)) = false by
        rw [← Bool.decide_and]; exact decide_eq_false h2] at h9
      exact h9
    clear h h2
    go_enter Try.func8, Try.ntmps8
    go_wp2_with fail
    refine (unhide HA _).mono ?_
    rintro e w1 ⟨rfl, e1⟩
    rw [e1]
    clear e1 w1
    go_wp2
    go_ret2
    exact ⟨rfl, Below.refl _ _⟩
end Go.Proofs.Ytiefmgljdibnnaa
