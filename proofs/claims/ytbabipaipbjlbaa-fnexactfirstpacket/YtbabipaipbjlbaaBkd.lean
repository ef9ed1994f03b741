/-
  Contracts: backends and the slot of an id, of both sides.
-/
import Derived.Test.YtbabipaipbjlbaaBaseX
namespace Go.Proofs.Ytbabipaipbjlbaa
open Go.ChangeShapes Go.WideShapes Go.ChangeAt Go.RowKit
set_option linter.unusedVariables false
set_option maxRecDepth 100000

/-- a letter a-z or a digit -/
def ldB (u : Int) : Bool := decide (97 ≤ u) && decide (u ≤ 122) || decide (48 ≤ u) && decide (u ≤ 57)
/-- byte i of a text -/
def b8 (s : ByteArray) (i : Nat) : Int := if h : i < s.size then (s[i].toNat : Int) else 0
theorem b8_in (s : ByteArray) (i : Nat) (h : i < s.size) : (s[i].toNat : Int) = b8 s i := by unfold b8; rw [dif_pos h]
theorem b8_lt (s : ByteArray) (i : Nat) : 0 ≤ b8 s i ∧ b8 s i < 256 := by
  unfold b8
  split
  · have := s[i].toNat_lt; omega
  · omega
/-- the first k bytes are letters or digits -/
def ldA (s : ByteArray) : Nat → Bool
  | 0 => true
  | k + 1 => ldA s k && ldB (b8 s k)
/-- a backend -/
def bkB (s : ByteArray) : Bool := decide (1 ≤ s.size) && decide (s.size ≤ 12) && ldA s s.size
theorem ldA_no (s : ByteArray) : ∀ {k m : Nat}, k < m → ldB (b8 s k) = false → ldA s m = false
  | k, 0, h, _ => absurd h (by omega)
  | k, m + 1, h, e => by
    unfold ldA
    by_cases hk : k = m
    · subst hk; rw [e, Bool.and_false]
    · rw [ldA_no s (show k < m by omega) e, Bool.false_and]
theorem ld_any (u : Int) (h0 : 0 ≤ u) (h1 : u < 256) (w : World) :
    Calls Try.prog 106 #[.int .u8 u] w fun e w' => e = .returned (.bool (ldB u)) ∧ w' = w := by
  unfold ldB
  by_cases c0 : 97 ≤ u <;> by_cases c1 : u ≤ 122 <;> by_cases c2 : 48 ≤ u <;> by_cases c3 : u ≤ 57 <;> first | (exfalso; omega) | skip
  all_goals
    simp only [c0, c1, c2, c3, decide_true, decide_false]
    go_enter Try.func106, Try.ntmps106
    go_wp2
    go_ret
    exact ⟨rfl, rfl⟩
set_option maxHeartbeats 1000000 in
theorem implGB (s : ByteArray) (w : World) (hs : s.size ≤ maxLen) :
    Calls Try.prog 87 #[.string s] w fun e w' => e = .returned (.bool (bkB s)) ∧ w' = w := by
  unfold maxLen at hs
  unfold bkB
  by_cases c0 : 1 ≤ s.size
  case neg =>
    simp only [c0, decide_false, Bool.false_and]
    go_enter Try.func87, Try.ntmps87
    go_wp2
    go_ret
    exact ⟨rfl, rfl⟩
  by_cases c1 : s.size ≤ 12
  case neg =>
    simp only [c0, c1, decide_false, decide_true, Bool.false_and, Bool.true_and]
    go_enter Try.func87, Try.ntmps87
    go_wp2
    go_ret
    exact ⟨rfl, rfl⟩
  simp only [c0, c1, decide_true, Bool.true_and]
  go_enter Try.func87, Try.ntmps87
  go_wp2
  go_loopw [14] (fun i wr => ∃ k : Nat, k ≤ s.size ∧ i = .int .i64 k ∧ ldA s k = true ∧ wr = w) (fun i _ => s.size - (intOf i).toNat)
  case atStart => exact ⟨0, Nat.zero_le _, rfl, rfl, rfl⟩
  case round =>
    obtain ⟨k, hk, rfl, hA, rfl⟩ := hrel
    by_cases hlt : k < s.size
    · have HC := hide (ld_any (b8 s k) (b8_lt s k).1 (b8_lt s k).2)
      rw [← b8_in s k hlt] at HC
      by_cases c : ldB (b8 s k) = true
      · rw [b8_in s k hlt, c, ← b8_in s k hlt] at HC
        have hA2 : Hid (ldA s (k + 1) = true) := by show _ = _; rw [ldA, hA, c]; rfl
        have HA := hide hA
        clear hA c
        go_wp2_with fail
        refine (unhide HC _).mono ?_
        rintro e w1 ⟨rfl, h1⟩
        subst w1
        go_wp2
        exact ⟨⟨k + 1, by omega, by go_num, unhide hA2, by trivial⟩, by simp [intOf]; omega⟩
      · have c' := Bool.eq_false_iff.2 c
        rw [b8_in s k hlt, c', ← b8_in s k hlt] at HC
        have hE := hide (ldA_no s hlt c')
        clear c c' hA
        go_wp2_with fail
        refine (unhide HC _).mono ?_
        rintro e w1 ⟨rfl, h1⟩
        subst w1
        go_wp2
        go_ret
        exact ⟨by rw [unhide hE]; rfl, rfl⟩
    · obtain rfl : k = s.size := by omega
      have HA := hide hA
      clear hA
      go_wp2
      go_ret
      exact ⟨by rw [unhide HA]; rfl, rfl⟩
set_option maxHeartbeats 1000000 in
theorem specBk (s : ByteArray) (w : World) (hs : s.size ≤ maxLen) :
    Calls Try.prog 80 #[.string s] w fun e w' => e = .returned (.bool (bkB s)) ∧ w' = w := by
  unfold maxLen at hs
  have HI := hide (inB s.size 1 12)
  go_enter Try.func80, Try.ntmps80
  go_wp2
  go_loopw [3] (fun i wr => ∃ k : Nat, k ≤ s.size ∧ i = .int .i64 k ∧ ldA s k = true ∧ wr = w) (fun i _ => s.size - (intOf i).toNat)
  case atStart => exact ⟨0, Nat.zero_le _, rfl, rfl, rfl⟩
  case round =>
    obtain ⟨k, hk, rfl, hA, rfl⟩ := hrel
    by_cases hlt : k < s.size
    · have hb := b8_lt s k
      have e8 := b8_in s k hlt
      by_cases c : ldB (b8 s k) = true
      · have hA2 : Hid (ldA s (k + 1) = true) := by show _ = _; rw [ldA, hA, c]; rfl
        have HA := hide hA
        have hl : Hid (k < s.size) := hlt
        clear hA
        unfold ldB at c
        generalize b8 s k = u at *
        by_cases c0 : 97 ≤ u <;> by_cases c1 : u ≤ 122 <;> by_cases c2 : 48 ≤ u <;> by_cases c3 : u ≤ 57 <;> simp only [c0, c1, c2, c3, decide_true, decide_false] at c <;> first | (exfalso; omega) | (exfalso; revert c; decide) | skip
        all_goals
          clear c
          go_wp2
          exact ⟨⟨k + 1, by omega, by go_num, unhide hA2, by trivial⟩, by simp [intOf]; omega⟩
      · have c' := Bool.eq_false_iff.2 c
        have hE := hide (ldA_no s hlt c')
        clear c hA
        have hE2 : Hid (bkB s = false) := by show _ = _; unfold bkB; rw [unhide hE, Bool.and_false]
        clear hE
        unfold ldB at c'
        generalize b8 s k = u at *
        by_cases c0 : 97 ≤ u <;> by_cases c1 : u ≤ 122 <;> by_cases c2 : 48 ≤ u <;> by_cases c3 : u ≤ 57 <;> simp only [c0, c1, c2, c3, decide_true, decide_false] at c' <;> first | (exfalso; omega) | (exfalso; revert c'; decide) | skip
        all_goals
          clear c'
          go_wp2
          go_ret
          exact ⟨by rw [unhide hE2]; rfl, rfl⟩
    · obtain rfl : k = s.size := by omega
      have hE : Hid (bkB s = (decide ((1 : Int) ≤ s.size) && decide ((s.size : Int) ≤ 12))) := by
        show _ = _
        unfold bkB
        rw [hA, Bool.and_true]
        rw [show decide ((1 : Int) ≤ s.size) = decide (1 ≤ s.size) from decide_eq_decide.2 (by omega), show decide ((s.size : Int) ≤ 12) = decide (s.size ≤ 12) from decide_eq_decide.2 (by omega)]
      have HA := hide hA
      clear hA
      go_wp2_with fail
      refine (unhide HI _).mono ?_
      rintro e w1 ⟨rfl, h1⟩
      subst w1
      go_wp2
      go_ret
      exact ⟨by rw [unhide hE]; rfl, rfl⟩
/-- what SlotOf answers -/
def soV (s : ByteArray) : Value := if s.size = 0 then .tuple #[.int .i64 0, .bool false] else if 224 ≤ b8 s 0 then .tuple #[.int .i64 0, .bool false] else .tuple #[.int .i64 (b8 s 0 / 32), .bool true]
theorem emp (s : ByteArray) : s.toList = [] ↔ s.size = 0 := by
  have h : s.toList.length = s.size := by rw [Lib.toList_data, Array.length_toList]; rfl
  constructor
  · intro e; rw [e] at h; simpa using h.symm
  · intro e; rw [e] at h; exact List.length_eq_zero_iff.1 h
theorem empN (k : ByteArray) (h : ¬ k.size = 0) : k.toList.isEmpty = false := by
  cases e : k.toList with
  | nil => exact absurd ((emp k).1 e) h
  | cons a l => rfl
end Go.Proofs.Ytbabipaipbjlbaa
