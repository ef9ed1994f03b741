/-
  Contracts: the keys that CheckToken takes, a token's shape, of the program; keys of the model.
-/
import Derived.Test.YtldjenhknejpnaaMnt
import Derived.Test.YtldjenhknejpnaaTxr
namespace Go.Proofs.Ytldjenhknejpnaa
open Go.ChangeShapes Go.WideShapes Go.ChangeAt Go.RowKit
set_option linter.unusedVariables false
set_option maxRecDepth 100000

/-- the first k texts have sixteen bytes each -/
def k16 (F : Nat → ByteArray) : Nat → Bool
  | 0 => true
  | k + 1 => k16 F k && decide ((F k).size = 16)
theorem k16_no (F : Nat → ByteArray) : ∀ {k n : Nat}, k < n → ¬ (F k).size = 16 → k16 F n = false
  | k, 0, h, _ => absurd h (by omega)
  | k, n + 1, h, e => by
    unfold k16
    by_cases hk : k = n
    · subst hk; rw [decide_eq_false e, Bool.and_false]
    · rw [k16_no F (show k < n by omega) e, Bool.false_and]
theorem k16_at (F : Nat → ByteArray) : ∀ {k n : Nat}, k < n → k16 F n = true → (F k).size = 16
  | k, 0, h, _ => absurd h (by omega)
  | k, n + 1, h, e => by
    unfold k16 at e
    rw [Bool.and_eq_true] at e
    by_cases hk : k = n
    · subst hk; exact of_decide_eq_true e.2
    · exact k16_at F (show k < n by omega) e.1
/-- the keys that CheckToken takes -/
def gkB (F : Nat → ByteArray) (n : Nat) : Bool := decide (1 ≤ n ∧ n ≤ 2) && k16 F n
theorem goodKs (a : Option Addr) (n cap : Nat) (F : Nat → ByteArray) (w : World) (hn : n ≤ 1048576) (hs : ∀ i, i < n → (F i).size ≤ 1048576) (h : Sa w a n F) :
    Calls Try.prog 52 #[.slice a n cap] w fun e w' => e = .returned (.bool (gkB F n)) ∧ w' = w := by
  have HR := hide h
  have HS := hide hs
  clear h hs
  unfold gkB
  by_cases h0 : 1 ≤ n
  case neg =>
    rw [decide_eq_false (by omega), Bool.false_and]
    obtain rfl : n = 0 := by omega
    go_enter Try.func52, Try.ntmps52
    go_wp2
    go_ret
    exact ⟨rfl, rfl⟩
  by_cases h1 : n ≤ 2
  case neg =>
    rw [decide_eq_false (by omega), Bool.false_and]
    have g0 : ¬ (n : Int) < 1 := by omega
    have g1 : (2 : Int) < (n : Int) := by omega
    go_enter Try.func52, Try.ntmps52
    go_wp2
    go_ret
    exact ⟨rfl, rfl⟩
  rw [decide_eq_true ⟨h0, h1⟩, Bool.true_and]
  have g0 : ¬ (n : Int) < 1 := by omega
  have g1 : ¬ (2 : Int) < (n : Int) := by omega
  go_enter Try.func52, Try.ntmps52
  go_wp2
  clear g0 g1
  go_loopw [15] (fun i wr => ∃ k : Nat, k ≤ n ∧ i = .int .i64 k ∧ k16 F k = true ∧ wr = w) (fun i _ => n - (intOf i).toNat)
  case atStart => exact ⟨0, Nat.zero_le _, rfl, rfl, rfl⟩
  case round =>
    obtain ⟨k, hk, rfl, hA, rfl⟩ := hrel
    by_cases hlt : k < n
    · rcases unhide HR with h0 | ⟨b, o, e, h1⟩
      · omega
      subst e
      have hcf := h1.c k hlt
      have hsz := unhide HS k hlt
      have hnk : (k : Int) < (n : Int) := by omega
      by_cases c : (F k).size = 16
      · have hA2 : Hid (k16 F (k + 1) = true) := by show _ = _; rw [k16, hA, decide_eq_true c]; rfl
        clear h1 hA
        generalize F k = t at *
        have c2 : ((t.size : Int) != 16) = false := by simp; omega
        go_wp2
        exact ⟨⟨k + 1, by omega, by go_num, unhide hA2, by trivial⟩, by simp [intOf]; omega⟩
      · have hE := hide (k16_no F hlt c)
        clear h1 hA
        generalize F k = t at *
        have c2 : ((t.size : Int) != 16) = true := by simp; omega
        go_wp2
        go_ret
        exact ⟨by rw [unhide hE]; rfl, rfl⟩
    · obtain rfl : k = n := by omega
      have HA := hide hA
      clear hA
      go_wp2
      go_ret
      exact ⟨by rw [unhide HA]; rfl, rfl⟩
end Go.Proofs.Ytldjenhknejpnaa
