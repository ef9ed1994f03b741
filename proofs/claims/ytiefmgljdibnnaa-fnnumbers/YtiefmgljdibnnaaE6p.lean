/-
  Contracts: NumberOf of the program.
-/
import Derived.Test.YtiefmgljdibnnaaE6o
namespace Go.Proofs.Ytiefmgljdibnnaa
open Go.ChangeShapes Go.WideShapes Go.ChangeAt Go.RowKit
set_option linter.unusedVariables false
set_option maxRecDepth 100000

theorem implNear (next low k : Nat) (h0 : 1 ≤ k) (h4 : k ≤ 4) (hn : next ≤ 4611686018427387903) (hl : low < 256 ^ k) (w : World) :
    Calls Try.prog 24 #[.int .i64 next, .int .i64 low, .int .i64 ((256 ^ k : Nat) : Int)] w fun e w' => e = .returned (.int .i64 (nrF next low (256 ^ k) : Nat)) ∧ w' = w := by
  rw [nrF_def]
  rcases four k h0 h4 with rfl | rfl | rfl | rfl
  · exact near1 next low (next / 256 ^ 1 * 256 ^ 1 + low) (by simp only [show (256 : Nat) ^ 1 = 256 by decide] at hl ⊢; unfold wrap64; omega) hn (by simp only [show (256 : Nat) ^ 1 = 256 by decide] at hl ⊢; omega) w
  · exact near2 next low (next / 256 ^ 2 * 256 ^ 2 + low) (by simp only [show (256 : Nat) ^ 2 = 65536 by decide] at hl ⊢; unfold wrap64; omega) hn (by simp only [show (256 : Nat) ^ 2 = 65536 by decide] at hl ⊢; omega) w
  · exact near3 next low (next / 256 ^ 3 * 256 ^ 3 + low) (by simp only [show (256 : Nat) ^ 3 = 16777216 by decide] at hl ⊢; unfold wrap64; omega) hn (by simp only [show (256 : Nat) ^ 3 = 16777216 by decide] at hl ⊢; omega) w
  · exact near4 next low (next / 256 ^ 4 * 256 ^ 4 + low) (by simp only [show (256 : Nat) ^ 4 = 4294967296 by decide] at hl ⊢; unfold wrap64; omega) hn (by simp only [show (256 : Nat) ^ 4 = 4294967296 by decide] at hl ⊢; omega) w
/-- NumberOf's answer -/
def noF (largest low size : Int) : Nat := nrF (largest + 1).toNat low.toNat (256 ^ size.toNat)
set_option maxHeartbeats 1000000 in
theorem implNO_ok (largest low size : Int) (h : 1 ≤ size ∧ size ≤ 4 ∧ -1 ≤ largest ∧ largest < 4611686018427387903 ∧ 0 ≤ low ∧ low < ((256 ^ size.toNat : Nat) : Int)) (w : World) :
    Calls Try.prog 9 #[.int .i64 largest, .int .i64 low, .int .i64 size] w fun e w' => e = .returned (.tuple #[.int .i64 (noF largest low size : Nat), .bool true]) ∧ Below w.heap.size w w' := by
  obtain ⟨h0, h1, h2, h3, h4, h5⟩ := h
  unfold noF
  obtain ⟨k, rfl⟩ : ∃ k : Nat, size = (k : Int) := ⟨size.toNat, by omega⟩
  obtain ⟨l, rfl⟩ : ∃ l : Nat, low = (l : Int) := ⟨low.toNat, by omega⟩
  obtain ⟨m, hm⟩ : ∃ m : Nat, largest + 1 = (m : Int) := ⟨(largest + 1).toNat, by omega⟩
  rw [hm]
  simp only [Int.toNat_natCast] at h5 ⊢
  have HK : Hid (∀ W : World, Calls Try.prog 22 #[.int .i64 (k : Int)] W fun e w' => e = .returned (.tuple #[.int .i32 ((48 + k : Nat) : Int), .bool true]) ∧ Below W.heap.size W w') := fun W => by
    have h9 := kind_of (k : Int) W
    rw [if_pos ⟨h0, h1⟩] at h9
    rw [show ((48 + k : Nat) : Int) = 48 + (k : Int) by omega]
    exact h9
  have HW := hide (widthOf_k k (by omega) (by omega))
  have HN := hide (implNear m l k (by omega) (by omega) (by omega) (by omega))
  generalize nrF m l (256 ^ k) = r at *
  generalize 48 + k = kd at *
  generalize 256 ^ k = W0 at *
  have h6 : ¬ ((W0 : Nat) : Int) ≤ (l : Int) := by omega
  go_enter Try.func9, Try.ntmps9
  go_wp2_with fail
  refine (unhide HK _).mono ?_
  rintro e w1 ⟨rfl, b1⟩
  have B1 := hide b1
  clear b1
  go_wp2_with fail
  refine (unhide HW _).mono ?_
  rintro e w2 ⟨rfl, e1⟩
  rw [e1]
  clear e1 w2
  go_wp2_with fail
  refine (unhide HW _).mono ?_
  rintro e w2 ⟨rfl, e1⟩
  rw [e1]
  clear e1 w2
  go_wp2_with fail
  refine (unhide HN _).mono ?_
  rintro e w2 ⟨rfl, e1⟩
  rw [e1]
  clear e1 w2
  go_wp2
  go_ret2
  exact ⟨rfl, unhide B1⟩
set_option maxHeartbeats 1000000 in
theorem implNO_no (largest low size : Int) (h : ¬ (1 ≤ size ∧ size ≤ 4 ∧ -1 ≤ largest ∧ largest < 4611686018427387903 ∧ 0 ≤ low ∧ low < ((256 ^ size.toNat : Nat) : Int))) (ka : (Lit.int .i64 largest).wf = true) (kb : (Lit.int .i64 low).wf = true) (kc : (Lit.int .i64 size).wf = true) (w : World) :
    Calls Try.prog 9 #[.int .i64 largest, .int .i64 low, .int .i64 size] w fun e w' => e = .returned (.tuple #[.int .i64 0, .bool false]) ∧ Below w.heap.size w w' := by
  clear ka kb kc
  by_cases h0 : 1 ≤ size ∧ size ≤ 4
  · obtain ⟨k, rfl⟩ : ∃ k : Nat, size = (k : Int) := ⟨size.toNat, by omega⟩
    simp only [Int.toNat_natCast] at h
    have HK : Hid (∀ W : World, Calls Try.prog 22 #[.int .i64 (k : Int)] W fun e w' => e = .returned (.tuple #[.int .i32 ((48 + k : Nat) : Int), .bool true]) ∧ Below W.heap.size W w') := fun W => by
      have h9 := kind_of (k : Int) W
      rw [if_pos h0] at h9
      rw [show ((48 + k : Nat) : Int) = 48 + (k : Int) by omega]
      exact h9
    have HW := hide (widthOf_k k (by omega) (by omega))
    generalize 48 + k = kd at *
    generalize 256 ^ k = W0 at *
    have hc : largest < -1 ∨ (-1 ≤ largest ∧ 4611686018427387903 ≤ largest) ∨ (-1 ≤ largest ∧ largest < 4611686018427387903 ∧ low < 0) ∨ (-1 ≤ largest ∧ largest < 4611686018427387903 ∧ 0 ≤ low ∧ (W0 : Int) ≤ low) := by omega
    clear h
    rcases hc with h1 | ⟨h1, h2⟩ | ⟨h1, h2, h3⟩ | ⟨h1, h2, h3, h4⟩
    · go_enter Try.func9, Try.ntmps9
      go_wp2_with fail
      refine (unhide HK _).mono ?_
      rintro e w1 ⟨rfl, b1⟩
      have B1 := hide b1
      clear b1
      go_wp2
      go_ret2
      exact ⟨rfl, unhide B1⟩
    · have h5 : ¬ largest < -1 := by omega
      go_enter Try.func9, Try.ntmps9
      go_wp2_with fail
      refine (unhide HK _).mono ?_
      rintro e w1 ⟨rfl, b1⟩
      have B1 := hide b1
      clear b1
      go_wp2
      go_ret2
      exact ⟨rfl, unhide B1⟩
    · have h5 : ¬ largest < -1 := by omega
      have h6 : ¬ 4611686018427387903 ≤ largest := by omega
      go_enter Try.func9, Try.ntmps9
      go_wp2_with fail
      refine (unhide HK _).mono ?_
      rintro e w1 ⟨rfl, b1⟩
      have B1 := hide b1
      clear b1
      go_wp2
      go_ret2
      exact ⟨rfl, unhide B1⟩
    · have h5 : ¬ largest < -1 := by omega
      have h6 : ¬ 4611686018427387903 ≤ largest := by omega
      have h7 : ¬ low < 0 := by omega
      go_enter Try.func9, Try.ntmps9
      go_wp2_with fail
      refine (unhide HK _).mono ?_
      rintro e w1 ⟨rfl, b1⟩
      have B1 := hide b1
      clear b1
      go_wp2_with fail
      refine (unhide HW _).mono ?_
      rintro e w2 ⟨rfl, e1⟩
      rw [e1]
      clear e1 w2
      go_wp2
      go_ret2
      exact ⟨rfl, unhide B1⟩
  · have HK : Hid (∀ W : World, Calls Try.prog 22 #[.int .i64 size] W fun e w' => e = .returned (.tuple #[.int .i32 0, .bool false]) ∧ Below W.heap.size W w') := fun W => by
      have h9 := kind_of size W
      rw [if_neg h0] at h9
      exact h9
    clear h h0
    go_enter Try.func9, Try.ntmps9
    go_wp2_with fail
    refine (unhide HK _).mono ?_
    rintro e w1 ⟨rfl, b1⟩
    have B1 := hide b1
    clear b1
    go_wp2
    go_ret2
    exact ⟨rfl, unhide B1⟩
end Go.Proofs.Ytiefmgljdibnnaa
