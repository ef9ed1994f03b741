/-
  Who is picked, as a function; the first of those with the greatest score.
-/
import Derived.Test.YtpjmnnaiegdjmaaDoorSco
import Derived.Test.YtpjmnnaiegdjmaaDoorTxrX
namespace Go.Proofs.YtpjmnnaiegdjmaaDoor
open Go.ChangeShapes Go.WideShapes Go.ChangeAt Go.RowKit
set_option linter.unusedVariables false

/-- of the first k + 1, the first with the greatest score -/
def pkI (F : Nat → ByteArray) (key : ByteArray) : Nat → Nat
  | 0 => 0
  | k + 1 => if scN (F (pkI F key k)) key < scN (F (k + 1)) key then k + 1 else pkI F key k
theorem pkI_le (F : Nat → ByteArray) (key : ByteArray) : ∀ k, pkI F key k ≤ k
  | 0 => Nat.le_refl _
  | k + 1 => by
    have := pkI_le F key k
    rw [pkI]
    split <;> omega
/-- i is the first of n with the greatest score -/
def IsT (F : Nat → ByteArray) (key : ByteArray) (n i : Nat) : Prop := i < n ∧ (∀ j, j < n → scN (F j) key ≤ scN (F i) key) ∧ ∀ j, j < i → scN (F j) key < scN (F i) key
theorem IsT.uniq {F : Nat → ByteArray} {key : ByteArray} {n i j : Nat} (h : IsT F key n i) (h' : IsT F key n j) : i = j := by
  obtain ⟨a, b, c⟩ := h
  obtain ⟨a', b', c'⟩ := h'
  by_cases h1 : i < j
  · have := c' i h1; have := b j a'; omega
  by_cases h2 : j < i
  · have := c j h2; have := b' i a; omega
  omega
theorem pkI_is (F : Nat → ByteArray) (key : ByteArray) : ∀ k, IsT F key (k + 1) (pkI F key k)
  | 0 => by
    refine ⟨Nat.zero_lt_one, fun j hj => ?_, fun j hj => absurd hj (Nat.not_lt_zero _)⟩
    obtain rfl : j = 0 := by omega
    exact Nat.le_refl _
  | k + 1 => by
    obtain ⟨a, b, c⟩ := pkI_is F key k
    rw [pkI]
    by_cases h : scN (F (pkI F key k)) key < scN (F (k + 1)) key
    · rw [if_pos h]
      refine ⟨by omega, fun j hj => ?_, fun j hj => ?_⟩
      · by_cases e : j = k + 1
        · rw [e]; exact Nat.le_refl _
        · have := b j (by omega); omega
      · have := b j (by omega); omega
    · rw [if_neg h]
      refine ⟨by omega, fun j hj => ?_, c⟩
      by_cases e : j = k + 1
      · rw [e]; omega
      · exact b j (by omega)
/-- who is picked of n -/
def pkT (F : Nat → ByteArray) (key : ByteArray) (n : Nat) : ByteArray := F (pkI F key (n - 1))
/-- a backend and its score -/
def sV (b key : ByteArray) : Value := .agg #[.string b, .int .i64 (scN b key : Nat)]
end Go.Proofs.YtpjmnnaiegdjmaaDoor
