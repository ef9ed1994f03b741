/-
  Contracts: NumberBytes and NumberOf of both sides.
-/
import Derived.Test.YtiefmgljdibnnaaE6n
namespace Go.Proofs.Ytiefmgljdibnnaa
open Go.ChangeShapes Go.WideShapes Go.ChangeAt Go.RowKit
set_option linter.unusedVariables false
set_option maxRecDepth 100000

theorem wf_i64 {n : Int} (h : (Lit.int .i64 n).wf = true) : -9223372036854775808 ≤ n ∧ n ≤ 9223372036854775807 := by
  have := h
  simp [Lit.wf, IntKind.min, IntKind.max, IntKind.signed, IntKind.bits] at this
  omega
set_option maxHeartbeats 1000000 in
theorem implNB_ok (n acked : Int) (h : 0 ≤ n ∧ n ≤ 4611686018427387903 ∧ -1 ≤ acked ∧ acked < n ∧ ¬ szF (n - acked) = 0) (w : World) :
    Calls Try.prog 7 #[.int .i64 n, .int .i64 acked] w fun e w' => e = .returned (.tuple #[.string (loW n.toNat (szF (n - acked))), .bool true]) ∧ Below w.heap.size w w' := by
  obtain ⟨h0, h1, h2, h3, h4⟩ := h
  have hk := szF_cases (n - acked)
  have HG : Hid (∀ W : World, Calls Try.prog 16 #[.int .i64 n] W fun e w' => e = .returned (.bool true) ∧ w' = W) := fun W => by
    have h9 := goodN n W
    rw [decide_eq_true h0, decide_eq_true h1] at h9
    exact h9
  obtain ⟨k, ek⟩ : ∃ k : Nat, szF (n - acked) = k := ⟨_, rfl⟩
  rw [ek] at hk h4 ⊢
  have k1 : 1 ≤ k := by omega
  have k4 : k ≤ 4 := by omega
  have HK : Hid (∀ W : World, Calls Try.prog 17 #[.int .i64 (n - acked)] W fun e w' => e = .returned (.tuple #[.int .i32 ((48 + k : Nat) : Int), .bool true]) ∧ Below W.heap.size W w') := fun W => by
    have h9 := kind_over (n - acked) W
    rw [ek, if_neg h4] at h9
    rw [show ((48 + k : Nat) : Int) = 48 + (k : Int) by omega]
    exact h9
  have HS := hide (sizeOf_k k k1 k4)
  obtain ⟨m, rfl⟩ : ∃ m : Nat, n = (m : Int) := ⟨n.toNat, by omega⟩
  rw [Int.toNat_natCast]
  have HL := hide (implLow m k (by omega) (by omega))
  generalize loW m k = r at *
  generalize 48 + k = kd at *
  clear hk ek h4
  go_enter Try.func7, Try.ntmps7
  go_wp2_with fail
  refine (unhide HG _).mono ?_
  rintro e w1 ⟨rfl, e1⟩
  rw [e1]
  clear e1 w1
  go_wp2_with fail
  refine (unhide HK _).mono ?_
  rintro e w1 ⟨rfl, b1⟩
  have B1 := hide b1
  clear b1
  go_wp2_with fail
  refine (unhide HS _).mono ?_
  rintro e w2 ⟨rfl, e1⟩
  rw [e1]
  clear e1 w2
  go_wp2_with fail
  refine (unhide HL _).mono ?_
  rintro e w2 ⟨rfl, b2⟩
  have B2 := hide ((unhide B1).trans (b2.mono (unhide B1).size))
  clear b2 B1
  go_wp2
  go_ret2
  exact ⟨rfl, unhide B2⟩
set_option maxHeartbeats 1000000 in
theorem implNB_no (n acked : Int) (h : ¬ (0 ≤ n ∧ n ≤ 4611686018427387903 ∧ -1 ≤ acked ∧ acked < n ∧ ¬ szF (n - acked) = 0)) (kn : (Lit.int .i64 n).wf = true) (ka : (Lit.int .i64 acked).wf = true) (w : World) :
    Calls Try.prog 7 #[.int .i64 n, .int .i64 acked] w fun e w' => e = .returned (.tuple #[.string ⟨#[]⟩, .bool false]) ∧ Below w.heap.size w w' := by
  have bn := wf_i64 kn
  have ba := wf_i64 ka
  clear kn ka
  by_cases h0 : 0 ≤ n ∧ n ≤ 4611686018427387903
  · have HG : Hid (∀ W : World, Calls Try.prog 16 #[.int .i64 n] W fun e w' => e = .returned (.bool true) ∧ w' = W) := fun W => by
      have h9 := goodN n W
      rw [decide_eq_true h0.1, decide_eq_true h0.2] at h9
      exact h9
    obtain ⟨h0, h1⟩ := h0
    by_cases h2 : acked < -1
    · clear h
      go_enter Try.func7, Try.ntmps7
      go_wp2_with fail
      refine (unhide HG _).mono ?_
      rintro e w1 ⟨rfl, e1⟩
      rw [e1]
      clear e1 w1
      go_wp2
      go_ret2
      exact ⟨rfl, Below.refl _ _⟩
    by_cases h3 : n ≤ acked
    · clear h
      go_enter Try.func7, Try.ntmps7
      go_wp2_with fail
      refine (unhide HG _).mono ?_
      rintro e w1 ⟨rfl, e1⟩
      rw [e1]
      clear e1 w1
      go_wp2
      go_ret2
      exact ⟨rfl, Below.refl _ _⟩
    have h4 : szF (n - acked) = 0 := by
      by_cases h9 : szF (n - acked) = 0
      · exact h9
      · exact absurd ⟨h0, h1, by omega, by omega, h9⟩ h
    have HK : Hid (∀ W : World, Calls Try.prog 17 #[.int .i64 (n - acked)] W fun e w' => e = .returned (.tuple #[.int .i32 0, .bool false]) ∧ Below W.heap.size W w') := fun W => by
      have h9 := kind_over (n - acked) W
      rw [h4, if_pos rfl] at h9
      exact h9
    clear h h4
    go_enter Try.func7, Try.ntmps7
    go_wp2_with fail
    refine (unhide HG _).mono ?_
    rintro e w1 ⟨rfl, e1⟩
    rw [e1]
    clear e1 w1
    go_wp2_with fail
    refine (unhide HK _).mono ?_
    rintro e w1 ⟨rfl, b1⟩
    have B1 := hide b1
    clear b1
    go_wp2
    go_ret2
    exact ⟨rfl, unhide B1⟩
  · have HG : Hid (∀ W : World, Calls Try.prog 16 #[.int .i64 n] W fun e w' => e = .returned (.bool false) ∧ w' = W) := fun W => by
      have h9 := goodN n W
      rw [show (decide (0 ≤ n) && decide (n ≤ 4611686018427387903)) = false by
        rw [← Bool.decide_and]; exact decide_eq_false h0] at h9
      exact h9
    clear h h0
    go_enter Try.func7, Try.ntmps7
    go_wp2_with fail
    refine (unhide HG _).mono ?_
    rintro e w1 ⟨rfl, e1⟩
    rw [e1]
    clear e1 w1
    go_wp2
    go_ret2
    exact ⟨rfl, Below.refl _ _⟩
end Go.Proofs.Ytiefmgljdibnnaa
