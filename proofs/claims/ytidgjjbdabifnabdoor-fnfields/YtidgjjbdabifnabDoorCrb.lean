/-
  Contracts: the program's cursor: a byte, a word, an id.
-/
import Derived.Test.YtidgjjbdabifnabDoorCrs
namespace Go.Proofs.YtidgjjbdabifnabDoor
open Go.ChangeShapes Go.WideShapes Go.ChangeAt Go.RowKit
set_option linter.unusedVariables false
set_option maxRecDepth 100000

/-- the byte at p, as a number -/
def at8 (s : ByteArray) (p : Nat) : Int := if h : p < s.size then (s[p].toNat : Int) else 0
theorem at8_in (s : ByteArray) (p : Nat) : 0 ≤ at8 s p ∧ at8 s p < 256 := by
  unfold at8
  split
  · have := s[p].toNat_lt; omega
  · omega
theorem at8_of {s : ByteArray} {p : Nat} (h : p < s.size) : at8 s p = (s[p].toNat : Int) := by unfold at8; rw [dif_pos h]
theorem piece_size (s : ByteArray) (p n : Nat) (h : p + n ≤ s.size) : (s.extract p (p + n)).size = n := by rw [ByteArray.size_extract]; omega
theorem piece_at (s : ByteArray) (p n i : Nat) (h : p + n ≤ s.size) (hi : i < n) (h' : i < (s.extract p (p + n)).size) : ((s.extract p (p + n))[i].toNat : Int) = at8 s (p + i) := by
  rw [at8_of (by omega), ByteArray.getElem_extract]

theorem wrap64_at8 (s : ByteArray) (p : Nat) : wrap64 (at8 s p) = at8 s p := by
  have b := at8_in s p
  unfold wrap64
  omega
theorem conv_bytes (P : Program) (w : World) (src dst e : TypeId) (s : ByteArray) (hs : P.underlying src = some .string) (hd : P.underlying dst = some (.slice e)) (he : P.underlying e = some (.int .u8)) :
    ∃ (cap : Nat) (W : World), (convert src dst (.string s)).run P w = .ok (.slice (some ⟨w.heap.size, 0, none⟩) s.size cap) W ∧ Below w.heap.size w W ∧ (∀ j (h : j < s.size), W.cell? ⟨w.heap.size, j, none⟩ = some (.int .u8 s[j].toNat)) ∧ (∀ j, j < s.size → W.frozen? ⟨w.heap.size, j, none⟩ = false) ∧ W.heap.size = w.heap.size + 1 := by
  refine ⟨_, _, run_bytes_of_string w src dst e s hs hd he, ?_, ?_, ?_, ?_⟩
  · exact ((Below.refl _ _).drew).alloc (Nat.le_refl _) _
  · intro j h
    have := World.cell?_alloc_mark w.drew (bytesRow s (grownCap w s.size 0 e)) e ((bytesRow s (grownCap w s.size 0 e)).size, (bytesRow s (grownCap w s.size 0 e)).size + 1) j
    rw [World.size_drew] at this
    rw [this]
    simp [bytesRow, Array.getElem?_append, h]
    rfl
  · intro j h
    have := World.frozen?_alloc_mark w.drew (bytesRow s (grownCap w s.size 0 e)) e (bytesRow s (grownCap w s.size 0 e)).size ((bytesRow s (grownCap w s.size 0 e)).size + 1) j
    rw [World.size_drew] at this
    rw [this]
    simp [bytesRow]
    omega
  · simp

/-- one byte more, as both texts put it behind: shifted by eight, or-ed -/
def st (m : Int) (c : UInt8) : Int := bits .or .i64 (wrap64 (m * 256)) (wrap64 (c.toNat : Int))
def big (m : Int) (l : List UInt8) : Int := l.foldl st m
theorem big_snoc (m : Int) (l : List UInt8) (c : UInt8) : big m (l ++ [c]) = st (big m l) c := by simp [big]
theorem take_snoc (s : ByteArray) (k : Nat) (h : k < s.size) : s.data.toList.take (k + 1) = s.data.toList.take k ++ [s[k]] := by
  rw [List.take_succ_eq_append_getElem (by simpa using h)]; rfl
end Go.Proofs.YtidgjjbdabifnabDoor
