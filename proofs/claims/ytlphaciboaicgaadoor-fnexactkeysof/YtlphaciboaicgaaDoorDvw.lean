/-
  What is derived, in texts.
-/
import Derived.Test.YtlphaciboaicgaaDoorSbk
namespace Go.Proofs.YtlphaciboaicgaaDoor
open Go.ChangeShapes Go.WideShapes Go.ChangeAt Go.RowKit
set_option linter.unusedVariables false

/-- a text of one byte -/
def b1W (i : Nat) : ByteArray := bq 1 (fun _ => i % 256)
/-- the parts of what is derived, one behind the other -/
def tW (secret info : ByteArray) : Nat → ByteArray
  | 0 => ⟨#[]⟩
  | k + 1 => hmW secret (tW secret info k ++ info ++ b1W (k + 1))
theorem tW_size (secret info : ByteArray) (k : Nat) : (tW secret info (k + 1)).size = 32 := hmW_size _ _
theorem tW_le (secret info : ByteArray) : ∀ k, (tW secret info k).size ≤ 32
  | 0 => by show (0 : Nat) ≤ 32; omega
  | k + 1 => by rw [tW_size]; omega
/-- the bytes of what is derived -/
def dvW (secret info : ByteArray) (i : Nat) : Nat := at8 (tW secret info (i / 32 + 1)) (i % 32)
theorem dvW_lt (secret info : ByteArray) (i : Nat) : dvW secret info i < 256 := at8_lt _ _
theorem dvW_part (secret info : ByteArray) (k i : Nat) (hi : i < 32) : dvW secret info (32 * k + i) = at8 (tW secret info (k + 1)) i := by
  unfold dvW
  rw [show (32 * k + i) / 32 = k by omega, show (32 * k + i) % 32 = i by omega]
theorem dv_add (secret info : ByteArray) (k : Nat) : bq (32 * k) (dvW secret info) ++ tW secret info (k + 1) = bq (32 * (k + 1)) (dvW secret info) := by
  rw [show 32 * (k + 1) = 32 * k + 32 by omega, ← bq_append (32 * k) 32 (dvW secret info)]
  congr 1
  have h := bq_at8 (tW secret info (k + 1))
  rw [tW_size] at h
  rw [← h]
  exact bq_congr fun i hi => (dvW_part _ _ _ _ hi).symm
theorem bq_take (N n : Nat) (f : Nat → Nat) (h : n ≤ N) (hf : ∀ i, f i < 256) : (bq N f).extract 0 n = bq n f := by
  have h1 := bq_extract N 0 n f (by omega) hf
  rw [Nat.zero_add] at h1
  rw [h1]
  exact bq_congr fun i _ => by rw [Nat.zero_add]
end Go.Proofs.YtlphaciboaicgaaDoor
