/-
  Contracts: backends and the slot of an id, of both sides.
-/
import Derived.Test.YtidgjjbdabifnabDoorInb
namespace Go.Proofs.YtidgjjbdabifnabDoor
open Go.ChangeShapes Go.WideShapes Go.ChangeAt Go.RowKit
set_option linter.unusedVariables false
set_option maxRecDepth 100000

/-- a letter a-z or a digit -/
def ldB (u : Int) : Bool := decide (97 ≤ u) && decide (u ≤ 122) || decide (48 ≤ u) && decide (u ≤ 57)
/-- byte i of a text -/
def b8 (s : ByteArray) (i : Nat) : Int := if h : i < s.size then (s[i].toNat : Int) else 0
theorem b8_in (s : ByteArray) (i : Nat) (h : i < s.size) : (s[i].toNat : Int) = b8 s i := by unfold b8; rw [dif_pos h]
theorem b8_lt (s : ByteArray) (i : Nat) : 0 ≤ b8 s i ∧ b8 s i < 256 := by
  unfold b8
  split
  · have := s[i].toNat_lt; omega
  · omega
/-- the first k bytes are letters or digits -/
def ldA (s : ByteArray) : Nat → Bool
  | 0 => true
  | k + 1 => ldA s k && ldB (b8 s k)
/-- a backend -/
def bkB (s : ByteArray) : Bool := decide (1 ≤ s.size) && decide (s.size ≤ 12) && ldA s s.size
theorem ldA_no (s : ByteArray) : ∀ {k m : Nat}, k < m → ldB (b8 s k) = false → ldA s m = false
  | k, 0, h, _ => absurd h (by omega)
  | k, m + 1, h, e => by
    unfold ldA
    by_cases hk : k = m
    · subst hk; rw [e, Bool.and_false]
    · rw [ldA_no s (show k < m by omega) e, Bool.false_and]
theorem ld_any (u : Int) (h0 : 0 ≤ u) (h1 : u < 256) (w : World) :
    Calls Tryd.prog 50 #[.int .u8 u] w fun e w' => e = .returned (.bool (ldB u)) ∧ w' = w := by
  unfold ldB
  by_cases c0 : 97 ≤ u <;> by_cases c1 : u ≤ 122 <;> by_cases c2 : 48 ≤ u <;> by_cases c3 : u ≤ 57 <;> first | (exfalso; omega) | skip
  all_goals
    simp only [c0, c1, c2, c3, decide_true, decide_false]
    go_enter Tryd.func50, Tryd.ntmps50
    go_wp2
    go_ret
    exact ⟨rfl, rfl⟩
/-- what SlotOf answers -/
def soV (s : ByteArray) : Value := if s.size = 0 then .tuple #[.int .i64 0, .bool false] else if 224 ≤ b8 s 0 then .tuple #[.int .i64 0, .bool false] else .tuple #[.int .i64 (b8 s 0 / 32), .bool true]
theorem emp (s : ByteArray) : s.toList = [] ↔ s.size = 0 := by
  have h : s.toList.length = s.size := by rw [Lib.toList_data, Array.length_toList]; rfl
  constructor
  · intro e; rw [e] at h; simpa using h.symm
  · intro e; rw [e] at h; exact List.length_eq_zero_iff.1 h
theorem empN (k : ByteArray) (h : ¬ k.size = 0) : k.toList.isEmpty = false := by
  cases e : k.toList with
  | nil => exact absurd ((emp k).1 e) h
  | cons a l => rfl
end Go.Proofs.YtidgjjbdabifnabDoor
