/-
  Contracts: lengths within a limit, of one text and of two. Contracts: what is minted as a value, its copies and its weight; addresses, times and marks of both sides. Contracts: the keys that CheckToken takes, a token's shape, of the program; keys of the model.
-/
import Derived.Test.YtbabipaipbjlbaaBaseX
import Derived.Test.YtbabipaipbjlbaaTxr
namespace Go.Proofs.Ytbabipaipbjlbaa
open Go.ChangeShapes Go.WideShapes Go.ChangeAt Go.RowKit
set_option linter.unusedVariables false
set_option maxRecDepth 100000

theorem within_one (t : ByteArray) (most : Nat) (hm : most ≤ 100000) (hl : t.size ≤ 1048576) (w : World) (g c : Nat) (hc : w.cell? ⟨g, 0, none⟩ = some (.string t)) :
    Calls Try.prog 31 #[.int .i64 most, .slice (some ⟨g, 0, none⟩) 1 c] w fun e w' => e = .returned (.bool (decide (t.size ≤ most))) ∧ w' = w := by
  by_cases h : t.size ≤ most
  · have h2 : ¬ ((most : Int) < (t.size : Int)) := by omega
    rw [decide_eq_true h]
    go_enter Try.func31, Try.ntmps31
    go_wp2
    refine wp_loop_rounds 2 ?_
    rw [rounds_succ]
    go_wp2
    rw [rounds_succ]
    go_wp2
    go_ret
    exact ⟨rfl, rfl⟩
  · have h2 : (most : Int) < (t.size : Int) := by omega
    rw [decide_eq_false h]
    go_enter Try.func31, Try.ntmps31
    go_wp2
    refine wp_loop_rounds 1 ?_
    rw [rounds_succ]
    go_wp2
    go_ret
    exact ⟨rfl, rfl⟩

theorem within_two (t s : ByteArray) (most : Nat) (hm : most ≤ 100000) (hl : t.size ≤ 1048576) (hl2 : s.size ≤ 1048576) (w : World) (g c : Nat) (hc : w.cell? ⟨g, 0, none⟩ = some (.string t)) (hc1 : w.cell? ⟨g, 1, none⟩ = some (.string s)) :
    Calls Try.prog 31 #[.int .i64 most, .slice (some ⟨g, 0, none⟩) 2 c] w fun e w' => e = .returned (.bool (decide (t.size ≤ most ∧ s.size ≤ most))) ∧ w' = w := by
  by_cases h : t.size ≤ most
  · have h2 : ¬ ((most : Int) < (t.size : Int)) := by omega
    by_cases k : s.size ≤ most
    · have k2 : ¬ ((most : Int) < (s.size : Int)) := by omega
      rw [decide_eq_true ⟨h, k⟩]
      go_enter Try.func31, Try.ntmps31
      go_wp2
      refine wp_loop_rounds 3 ?_
      rw [rounds_succ]
      go_wp2
      rw [rounds_succ]
      go_wp2
      rw [rounds_succ]
      go_wp2
      go_ret
      exact ⟨rfl, rfl⟩
    · have k2 : (most : Int) < (s.size : Int) := by omega
      rw [decide_eq_false (fun x => k x.2)]
      go_enter Try.func31, Try.ntmps31
      go_wp2
      refine wp_loop_rounds 2 ?_
      rw [rounds_succ]
      go_wp2
      rw [rounds_succ]
      go_wp2
      go_ret
      exact ⟨rfl, rfl⟩
  · have h2 : (most : Int) < (t.size : Int) := by omega
    rw [decide_eq_false (fun x => h x.1)]
    go_enter Try.func31, Try.ntmps31
    go_wp2
    refine wp_loop_rounds 1 ?_
    rw [rounds_succ]
    go_wp2
    go_ret
    exact ⟨rfl, rfl⟩
end Go.Proofs.Ytbabipaipbjlbaa
namespace Go.Proofs.Ytbabipaipbjlbaa
open Go.ChangeShapes Go.WideShapes Go.ChangeAt Go.RowKit
set_option linter.unusedVariables false
set_option maxRecDepth 100000

/-- what is minted, as a value -/
abbrev mnV (d : ByteArray) (t : Int) (n : Bool) : Value := .agg #[.string d, .int .i64 t, .bool n]
theorem none_iff (s : ByteArray) : s.toList = [] ↔ s.size = 0 := by
  have h : s.toList.length = s.size := by rw [Lib.toList_data, Array.length_toList]; rfl
  constructor
  · intro e; rw [e] at h; simpa using h.symm
  · intro e; rw [e] at h; exact List.length_eq_zero_iff.1 h
theorem goodLf (t : Int) (w : World) :
    Calls Try.prog 63 #[.int .i64 t] w fun e w' => e = .returned (.bool (decide (0 ≤ t ∧ t ≤ 1000000))) ∧ w' = w := by
  by_cases h0 : 0 ≤ t
  · rw [show decide (0 ≤ t ∧ t ≤ 1000000) = decide (t ≤ 1000000) from decide_eq_decide.2 (by omega)]
    go_enter Try.func63, Try.ntmps63
    go_wp2
    go_ret
    exact ⟨rfl, rfl⟩
  · rw [decide_eq_false (by omega)]
    go_enter Try.func63, Try.ntmps63
    go_wp2
    go_ret
    exact ⟨rfl, rfl⟩
end Go.Proofs.Ytbabipaipbjlbaa
namespace Go.Proofs.Ytbabipaipbjlbaa
open Go.ChangeShapes Go.WideShapes Go.ChangeAt Go.RowKit
set_option linter.unusedVariables false
set_option maxRecDepth 100000

/-- the first k texts have sixteen bytes each -/
def k16 (F : Nat → ByteArray) : Nat → Bool
  | 0 => true
  | k + 1 => k16 F k && decide ((F k).size = 16)
theorem k16_no (F : Nat → ByteArray) : ∀ {k n : Nat}, k < n → ¬ (F k).size = 16 → k16 F n = false
  | k, 0, h, _ => absurd h (by omega)
  | k, n + 1, h, e => by
    unfold k16
    by_cases hk : k = n
    · subst hk; rw [decide_eq_false e, Bool.and_false]
    · rw [k16_no F (show k < n by omega) e, Bool.false_and]
theorem k16_at (F : Nat → ByteArray) : ∀ {k n : Nat}, k < n → k16 F n = true → (F k).size = 16
  | k, 0, h, _ => absurd h (by omega)
  | k, n + 1, h, e => by
    unfold k16 at e
    rw [Bool.and_eq_true] at e
    by_cases hk : k = n
    · subst hk; exact of_decide_eq_true e.2
    · exact k16_at F (show k < n by omega) e.1
/-- the keys that CheckToken takes -/
def gkB (F : Nat → ByteArray) (n : Nat) : Bool := decide (1 ≤ n ∧ n ≤ 2) && k16 F n
theorem goodKs (a : Option Addr) (n cap : Nat) (F : Nat → ByteArray) (w : World) (hn : n ≤ 1048576) (hs : ∀ i, i < n → (F i).size ≤ 1048576) (h : Sa w a n F) :
    Calls Try.prog 88 #[.slice a n cap] w fun e w' => e = .returned (.bool (gkB F n)) ∧ w' = w := by
  have HR := hide h
  have HS := hide hs
  clear h hs
  unfold gkB
  by_cases h0 : 1 ≤ n
  case neg =>
    rw [decide_eq_false (by omega), Bool.false_and]
    obtain rfl : n = 0 := by omega
    go_enter Try.func88, Try.ntmps88
    go_wp2
    go_ret
    exact ⟨rfl, rfl⟩
  by_cases h1 : n ≤ 2
  case neg =>
    rw [decide_eq_false (by omega), Bool.false_and]
    have g0 : ¬ (n : Int) < 1 := by omega
    have g1 : (2 : Int) < (n : Int) := by omega
    go_enter Try.func88, Try.ntmps88
    go_wp2
    go_ret
    exact ⟨rfl, rfl⟩
  rw [decide_eq_true ⟨h0, h1⟩, Bool.true_and]
  have g0 : ¬ (n : Int) < 1 := by omega
  have g1 : ¬ (2 : Int) < (n : Int) := by omega
  go_enter Try.func88, Try.ntmps88
  go_wp2
  clear g0 g1
  go_loopw [15] (fun i wr => ∃ k : Nat, k ≤ n ∧ i = .int .i64 k ∧ k16 F k = true ∧ wr = w) (fun i _ => n - (intOf i).toNat)
  case atStart => exact ⟨0, Nat.zero_le _, rfl, rfl, rfl⟩
  case round =>
    obtain ⟨k, hk, rfl, hA, rfl⟩ := hrel
    by_cases hlt : k < n
    · rcases unhide HR with h0 | ⟨b, o, e, h1⟩
      · omega
      subst e
      have hcf := h1.c k hlt
      have hsz := unhide HS k hlt
      have hnk : (k : Int) < (n : Int) := by omega
      by_cases c : (F k).size = 16
      · have hA2 : Hid (k16 F (k + 1) = true) := by show _ = _; rw [k16, hA, decide_eq_true c]; rfl
        clear h1 hA
        generalize F k = t at *
        have c2 : ((t.size : Int) != 16) = false := by simp; omega
        go_wp2
        exact ⟨⟨k + 1, by omega, by go_num, unhide hA2, by trivial⟩, by simp [intOf]; omega⟩
      · have hE := hide (k16_no F hlt c)
        clear h1 hA
        generalize F k = t at *
        have c2 : ((t.size : Int) != 16) = true := by simp; omega
        go_wp2
        go_ret
        exact ⟨by rw [unhide hE]; rfl, rfl⟩
    · obtain rfl : k = n := by omega
      have HA := hide hA
      clear hA
      go_wp2
      go_ret
      exact ⟨by rw [unhide HA]; rfl, rfl⟩
end Go.Proofs.Ytbabipaipbjlbaa
