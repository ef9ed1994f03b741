/-
  Contracts: the model's number of four bytes.
-/
import Derived.Test.YtiefmgljdibnnaaArs
import Derived.Laws.BitsLemmas
import Derived.Deep.RegionHeld3
namespace Go.Proofs.Ytiefmgljdibnnaa
open Go.ChangeShapes Go.WideShapes Go.ChangeAt Go.RowKit
set_option linter.unusedVariables false

/-- the number of the first k bytes -/
def nbW (s : ByteArray) : Nat → Nat
  | 0 => 0
  | k + 1 => nbW s k * 256 + at8 s k
theorem nbW_lt (s : ByteArray) : ∀ k, nbW s k < 256 ^ k
  | 0 => by simp [nbW]
  | k + 1 => by
    have h1 := nbW_lt s k
    have h2 := at8_lt s k
    rw [nbW, Nat.pow_succ]
    omega
theorem orI (n c : Nat) (hn : n < 4294967296) (hc : c < 256) : bits .or .i64 ((n : Int) * 256) (c : Int) = ((n * 256 + c : Nat) : Int) := by
  have h1 := Nat.two_pow_add_eq_or_of_lt (i := 8) (b := c) (by omega) n
  rw [show (n : Int) * 256 = ((n * 256 : Nat) : Int) by omega]
  by_cases h : n * 256 < 2 ^ 63
  · rw [(bits_nat .i64 63 (by decide) (fun n h0 h1 => wraps_i64 n h0 h1) _ _ h (by omega)).2]
    rw [Nat.mul_comm] at h1
    rw [h1]
  · omega
theorem at8_extract (s : ByteArray) (p q i : Nat) (hq : q ≤ s.size) (hi : p + i < q) : at8 (s.extract p q) i = at8 s (p + i) := by
  rw [at8_in s (p + i) (by omega), at8_in _ _ (by rw [ByteArray.size_extract]; omega)]
  congr 1
  simp [ByteArray.getElem_extract]
end Go.Proofs.Ytiefmgljdibnnaa
