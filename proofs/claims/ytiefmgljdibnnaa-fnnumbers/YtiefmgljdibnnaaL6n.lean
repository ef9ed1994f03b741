/-
  Contracts: NumberBytes and NumberOf of the model.
-/
import Derived.Test.YtiefmgljdibnnaaE6o
namespace Go.Proofs.Ytiefmgljdibnnaa
open Go.ChangeShapes Go.WideShapes Go.ChangeAt Go.RowKit
set_option linter.unusedVariables false
set_option maxRecDepth 100000

set_option maxHeartbeats 1000000 in
theorem specSize (n acked : Int) (h0 : 0 ≤ n) (h1 : n ≤ 4611686018427387903) (h2 : -1 ≤ acked) (h3 : acked < n) (w : World) :
    Calls Try.prog 14 #[.int .i64 n, .int .i64 acked] w fun e w' => e = .returned (.int .i64 (szF (n - acked) : Nat)) ∧ w' = w := by
  rcases szF_cases (n - acked) with ⟨g2, e⟩ | ⟨g1, g2, e⟩ | ⟨g1, g2, e⟩ | ⟨g1, g2, e⟩ | ⟨g1, e⟩
  · rw [e]
    clear e
    have q1 : n - acked ≤ 127 := by omega
    clear g2
    go_enter Try.func14, Try.ntmps14
    go_wp2
    refine wp_loop_rounds 5 ?_
    rw [rounds_succ]
    go_wp2
    go_ret
    exact ⟨rfl, rfl⟩
  · rw [e]
    clear e
    have q1 : ¬ n - acked ≤ 127 := by omega
    have q2 : n - acked ≤ 32767 := by omega
    clear g1 g2
    go_enter Try.func14, Try.ntmps14
    go_wp2
    refine wp_loop_rounds 5 ?_
    rw [rounds_succ]
    go_wp2
    rw [rounds_succ]
    go_wp2
    go_ret
    exact ⟨rfl, rfl⟩
  · rw [e]
    clear e
    have q1 : ¬ n - acked ≤ 127 := by omega
    have q2 : ¬ n - acked ≤ 32767 := by omega
    have q3 : n - acked ≤ 8388607 := by omega
    clear g1 g2
    go_enter Try.func14, Try.ntmps14
    go_wp2
    refine wp_loop_rounds 5 ?_
    rw [rounds_succ]
    go_wp2
    rw [rounds_succ]
    go_wp2
    rw [rounds_succ]
    go_wp2
    go_ret
    exact ⟨rfl, rfl⟩
  · rw [e]
    clear e
    have q1 : ¬ n - acked ≤ 127 := by omega
    have q2 : ¬ n - acked ≤ 32767 := by omega
    have q3 : ¬ n - acked ≤ 8388607 := by omega
    have q4 : n - acked ≤ 2147483647 := by omega
    clear g1 g2
    go_enter Try.func14, Try.ntmps14
    go_wp2
    refine wp_loop_rounds 5 ?_
    rw [rounds_succ]
    go_wp2
    rw [rounds_succ]
    go_wp2
    rw [rounds_succ]
    go_wp2
    rw [rounds_succ]
    go_wp2
    go_ret
    exact ⟨rfl, rfl⟩
  · rw [e]
    clear e
    have q1 : ¬ n - acked ≤ 127 := by omega
    have q2 : ¬ n - acked ≤ 32767 := by omega
    have q3 : ¬ n - acked ≤ 8388607 := by omega
    have q4 : ¬ n - acked ≤ 2147483647 := by omega
    clear g1
    go_enter Try.func14, Try.ntmps14
    go_wp2
    refine wp_loop_rounds 5 ?_
    rw [rounds_succ]
    go_wp2
    rw [rounds_succ]
    go_wp2
    rw [rounds_succ]
    go_wp2
    rw [rounds_succ]
    go_wp2
    rw [rounds_succ]
    go_wp2
    go_ret
    exact ⟨rfl, rfl⟩
set_option maxHeartbeats 1000000 in
theorem specSaid (n acked : Int) (bn : -9223372036854775808 ≤ n ∧ n ≤ 9223372036854775807) (w : World) :
    Calls Try.prog 13 #[.int .i64 n, .int .i64 acked] w fun e w' => e = .returned (.bool (decide (0 ≤ n ∧ n ≤ 4611686018427387903 ∧ -1 ≤ acked ∧ acked < n))) ∧ w' = w := by
  by_cases h0 : 0 ≤ n ∧ n ≤ 4611686018427387903
  · have HG : Hid (∀ W : World, Calls Try.prog 20 #[.int .i64 n, .int .i64 0, .int .i64 4611686018427387903] W fun e w' => e = .returned (.bool true) ∧ w' = W) := fun W => by
      have h9 := inB n 0 4611686018427387903 W
      rw [decide_eq_true h0.1, decide_eq_true h0.2] at h9
      exact h9
    have HA : Hid (∀ W : World, Calls Try.prog 20 #[.int .i64 acked, .int .i64 (-1), .int .i64 (n - 1)] W fun e w' => e = .returned (.bool (decide (0 ≤ n ∧ n ≤ 4611686018427387903 ∧ -1 ≤ acked ∧ acked < n))) ∧ w' = W) := fun W => by
      have h9 := inB acked (-1) (n - 1) W
      rw [show (decide (-1 ≤ acked) && decide (acked ≤ n - 1)) = decide (0 ≤ n ∧ n ≤ 4611686018427387903 ∧ -1 ≤ acked ∧ acked < n) by
        rw [← Bool.decide_and]
        congr 1
        simp only [eq_iff_iff]
        omega] at h9
      exact h9
    generalize decide (0 ≤ n ∧ n ≤ 4611686018427387903 ∧ -1 ≤ acked ∧ acked < n) = b at *
    go_enter Try.func13, Try.ntmps13
    go_wp2_with fail
    refine (unhide HG _).mono ?_
    rintro e w1 ⟨rfl, e1⟩
    rw [e1]
    clear e1 w1
    go_wp2_with fail
    refine (unhide HA _).mono ?_
    rintro e w1 ⟨rfl, e1⟩
    rw [e1]
    clear e1 w1
    go_wp2
    go_ret
    exact ⟨rfl, rfl⟩
  · have HG : Hid (∀ W : World, Calls Try.prog 20 #[.int .i64 n, .int .i64 0, .int .i64 4611686018427387903] W fun e w' => e = .returned (.bool false) ∧ w' = W) := fun W => by
      have h9 := inB n 0 4611686018427387903 W
      rw [show (decide (0 ≤ n) && decide (n ≤ 4611686018427387903)) = false by
        rw [← Bool.decide_and]; exact decide_eq_false h0] at h9
      exact h9
    rw [decide_eq_false (fun x => h0 ⟨x.1, x.2.1⟩)]
    go_enter Try.func13, Try.ntmps13
    go_wp2_with fail
    refine (unhide HG _).mono ?_
    rintro e w1 ⟨rfl, e1⟩
    rw [e1]
    clear e1 w1
    go_wp2
    go_ret
    exact ⟨rfl, rfl⟩
set_option maxHeartbeats 1000000 in
theorem specNB_ok (n acked : Int) (h : 0 ≤ n ∧ n ≤ 4611686018427387903 ∧ -1 ≤ acked ∧ acked < n ∧ ¬ szF (n - acked) = 0) (w : World) :
    Calls Try.prog 6 #[.int .i64 n, .int .i64 acked] w fun e w' => e = .returned (.tuple #[.string (loW n.toNat (szF (n - acked))), .bool true]) ∧ Below w.heap.size w w' := by
  obtain ⟨h0, h1, h2, h3, h4⟩ := h
  have HS := hide (specSize n acked h0 h1 h2 h3)
  have HD : Hid (∀ W : World, Calls Try.prog 13 #[.int .i64 n, .int .i64 acked] W fun e w' => e = .returned (.bool true) ∧ w' = W) := fun W => by
    have h9 := specSaid n acked (by omega) W
    rw [decide_eq_true ⟨h0, h1, h2, h3⟩] at h9
    exact h9
  have hk := szF_cases (n - acked)
  generalize szF (n - acked) = k at *
  have k4 : k ≤ 4 := by omega
  have kI : ((k : Int) == 0) = false := by simp; omega
  obtain ⟨m, rfl⟩ : ∃ m : Nat, n = (m : Int) := ⟨n.toNat, by omega⟩
  rw [Int.toNat_natCast]
  have HL := hide (specFx m k (by omega) (by omega))
  generalize loW m k = r at *
  clear hk h4
  go_enter Try.func6, Try.ntmps6
  go_wp2_with fail
  refine (unhide HD _).mono ?_
  rintro e w1 ⟨rfl, e1⟩
  rw [e1]
  clear e1 w1
  go_wp2_with fail
  refine (unhide HS _).mono ?_
  rintro e w1 ⟨rfl, e1⟩
  rw [e1]
  clear e1 w1
  go_wp2_with fail
  refine (unhide HS _).mono ?_
  rintro e w1 ⟨rfl, e1⟩
  rw [e1]
  clear e1 w1
  go_wp2_with fail
  refine (unhide HL _).mono ?_
  rintro e w1 ⟨rfl, b1⟩
  have B1 := hide b1
  clear b1
  go_wp2
  go_ret2
  exact ⟨rfl, unhide B1⟩
set_option maxHeartbeats 1000000 in
theorem specNB_no (n acked : Int) (h : ¬ (0 ≤ n ∧ n ≤ 4611686018427387903 ∧ -1 ≤ acked ∧ acked < n ∧ ¬ szF (n - acked) = 0)) (kn : (Lit.int .i64 n).wf = true) (ka : (Lit.int .i64 acked).wf = true) (w : World) :
    Calls Try.prog 6 #[.int .i64 n, .int .i64 acked] w fun e w' => e = .returned (.tuple #[.string ⟨#[]⟩, .bool false]) ∧ Below w.heap.size w w' := by
  have bn := wf_i64 kn
  clear kn ka
  by_cases hd : 0 ≤ n ∧ n ≤ 4611686018427387903 ∧ -1 ≤ acked ∧ acked < n
  · have HD : Hid (∀ W : World, Calls Try.prog 13 #[.int .i64 n, .int .i64 acked] W fun e w' => e = .returned (.bool true) ∧ w' = W) := fun W => by
      have h9 := specSaid n acked bn W
      rw [decide_eq_true hd] at h9
      exact h9
    have h4 : szF (n - acked) = 0 := by
      by_cases h9 : szF (n - acked) = 0
      · exact h9
      · exact absurd ⟨hd.1, hd.2.1, hd.2.2.1, hd.2.2.2, h9⟩ h
    have HS : Hid (∀ W : World, Calls Try.prog 14 #[.int .i64 n, .int .i64 acked] W fun e w' => e = .returned (.int .i64 0) ∧ w' = W) := fun W => by
      have h9 := specSize n acked hd.1 hd.2.1 hd.2.2.1 hd.2.2.2 W
      rw [h4] at h9
      exact h9
    clear h h4 hd
    go_enter Try.func6, Try.ntmps6
    go_wp2_with fail
    refine (unhide HD _).mono ?_
    rintro e w1 ⟨rfl, e1⟩
    rw [e1]
    clear e1 w1
    go_wp2_with fail
    refine (unhide HS _).mono ?_
    rintro e w1 ⟨rfl, e1⟩
    rw [e1]
    clear e1 w1
    go_wp2
    go_ret2
    exact ⟨rfl, Below.refl _ _⟩
  · have HD : Hid (∀ W : World, Calls Try.prog 13 #[.int .i64 n, .int .i64 acked] W fun e w' => e = .returned (.bool false) ∧ w' = W) := fun W => by
      have h9 := specSaid n acked bn W
      rw [decide_eq_false hd] at h9
      exact h9
    clear h hd
    go_enter Try.func6, Try.ntmps6
    go_wp2_with fail
    refine (unhide HD _).mono ?_
    rintro e w1 ⟨rfl, e1⟩
    rw [e1]
    clear e1 w1
    go_wp2
    go_ret2
    exact ⟨rfl, Below.refl _ _⟩
end Go.Proofs.Ytiefmgljdibnnaa
