/-
  Contracts: the program's cursor: a byte, a word, an id.
-/
import Derived.Test.YtgieglpjkjncfabDoorCrs
import Derived.Test.YtgieglpjkjncfabDoorVrb
namespace Go.Proofs.YtgieglpjkjncfabDoor
open Go.ChangeShapes Go.WideShapes Go.ChangeAt Go.RowKit
set_option linter.unusedVariables false
set_option maxRecDepth 100000

/-- the byte at p, as a number -/
def at8 (s : ByteArray) (p : Nat) : Int := if h : p < s.size then (s[p].toNat : Int) else 0
theorem at8_in (s : ByteArray) (p : Nat) : 0 ≤ at8 s p ∧ at8 s p < 256 := by
  unfold at8
  split
  · have := s[p].toNat_lt; omega
  · omega
theorem at8_of {s : ByteArray} {p : Nat} (h : p < s.size) : at8 s p = (s[p].toNat : Int) := by unfold at8; rw [dif_pos h]
theorem piece_size (s : ByteArray) (p n : Nat) (h : p + n ≤ s.size) : (s.extract p (p + n)).size = n := by rw [ByteArray.size_extract]; omega
theorem piece_at (s : ByteArray) (p n i : Nat) (h : p + n ≤ s.size) (hi : i < n) (h' : i < (s.extract p (p + n)).size) : ((s.extract p (p + n))[i].toNat : Int) = at8 s (p + i) := by
  rw [at8_of (by omega), ByteArray.getElem_extract]

theorem wrap64_at8 (s : ByteArray) (p : Nat) : wrap64 (at8 s p) = at8 s p := by
  have b := at8_in s p
  unfold wrap64
  omega
end Go.Proofs.YtgieglpjkjncfabDoor
