/-
  Texts and arrays of bytes.
-/
import Derived.Test.YtgieglpjkjncfabDoorXar
namespace Go.Proofs.YtgieglpjkjncfabDoor.Dr
open Go.ChangeShapes Go.WideShapes Go.ChangeAt Go.RowKit
set_option linter.unusedVariables false

/-- the byte at a place, 0 behind the end -/
def at8 (s : ByteArray) (i : Nat) : Nat := if h : i < s.size then s[i].toNat else 0
theorem at8_lt (s : ByteArray) (i : Nat) : at8 s i < 256 := by
  unfold at8; split
  · exact UInt8.toNat_lt _
  · omega
theorem at8_in (s : ByteArray) (i : Nat) (h : i < s.size) : at8 s i = s[i].toNat := by unfold at8; rw [dif_pos h]
/-- n bytes as a text -/
def bq (n : Nat) (f : Nat → Nat) : ByteArray := ⟨((List.range n).map fun i => UInt8.ofNat (f i)).toArray⟩
theorem bq_size (n : Nat) (f : Nat → Nat) : (bq n f).size = n := by simp [bq, ByteArray.size]
theorem bq_congr {n : Nat} {f g : Nat → Nat} (h : ∀ i, i < n → f i = g i) : bq n f = bq n g := by
  unfold bq
  rw [List.map_congr_left fun i hi => by rw [h i (List.mem_range.1 hi)]]
theorem at8_bq (n : Nat) (f : Nat → Nat) (i : Nat) (hi : i < n) (hf : f i < 256) : at8 (bq n f) i = f i := by
  rw [at8_in _ _ (by rw [bq_size]; exact hi)]
  show (((List.range n).map fun i => UInt8.ofNat (f i)).toArray[i]'(by simp; exact hi)).toNat = f i
  simp [UInt8.toNat_ofNat']
  omega
theorem bq_at8 (s : ByteArray) : bq s.size (at8 s) = s := by
  apply ByteArray.ext
  apply Array.ext
  · exact bq_size s.size (at8 s)
  · intro i h1 h2
    have h3 : i < s.size := h2
    have e : (bq s.size (at8 s)).data[i]'h1 = UInt8.ofNat (at8 s i) := by
      show (((List.range s.size).map fun i => UInt8.ofNat (at8 s i)).toArray[i]'(by simpa using h3)) = _
      rw [List.getElem_toArray, List.getElem_map, List.getElem_range]
    rw [e, at8_in s i h3, UInt8.ofNat_toNat]
    rfl

theorem conv_ar (w : World) (s : ByteArray) :
    ∃ (cap : Nat) (W : World), (convert 9 22 (.string s)).run Tryd.prog w = .ok (.slice (some ⟨w.heap.size, 0, none⟩) s.size cap) W ∧ Below w.heap.size w W ∧ Ar W w.heap.size 0 s.size (at8 s) ∧ W.heap.size = w.heap.size + 1 := by
  refine ⟨_, _, run_bytes_of_string w 9 22 5 s Tryd.underlying9 Tryd.underlying22 Tryd.underlying5, ?_, ⟨?_, ?_, ?_⟩, ?_⟩
  · exact ((Below.refl _ _).drew).alloc (Nat.le_refl _) _
  · intro j h
    have := World.cell?_alloc_mark w.drew (bytesRow s (grownCap w s.size 0 5)) 5 ((bytesRow s (grownCap w s.size 0 5)).size, (bytesRow s (grownCap w s.size 0 5)).size + 1) j
    rw [World.size_drew] at this
    rw [Nat.zero_add, this, at8_in s j h]
    simp [bytesRow, Array.getElem?_append, h]
    rfl
  · intro j h
    have := World.frozen?_alloc_mark w.drew (bytesRow s (grownCap w s.size 0 5)) 5 (bytesRow s (grownCap w s.size 0 5)).size ((bytesRow s (grownCap w s.size 0 5)).size + 1) j
    rw [World.size_drew] at this
    rw [Nat.zero_add, this]
    simp [bytesRow]
    omega
  · simp
  · simp
theorem ar_string {w : World} {b o n : Nat} {f : Nat → Nat} (h : Ar w b o n f) (hf : ∀ i, i < n → f i < 256) (cap : Nat) :
    (convert 22 9 (.slice (some ⟨b, o, none⟩) n cap)).run Tryd.prog w = .ok (.string (bq n f)) w := by
  have := run_convert_bytes_back (P := Tryd.prog) w 22 9 5 ⟨b, o, none⟩ cap ((List.range n).map fun i => UInt8.ofNat (f i)) Tryd.underlying22 Tryd.underlying5 Tryd.underlying9 (by
    intro j hj
    simp at hj
    rw [Addr.add_mid, h.c j hj]
    have := hf j hj
    simp
    omega)
  simpa [bq] using this
end Go.Proofs.YtgieglpjkjncfabDoor.Dr
