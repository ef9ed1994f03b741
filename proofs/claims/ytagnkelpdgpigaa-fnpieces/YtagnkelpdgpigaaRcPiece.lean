/-
  Rows of impl.Piece: read, copied by the laws, weighed, held against each other, marked.
-/
import Derived.Test.YtagnkelpdgpigaaRcs
import Derived.Test.YtagnkelpdgpigaaStx
import Derived.Deep.QuietTactic
import Derived.Deep.RegionWith
import Derived.BigQuiet
namespace Go.Proofs.Ytagnkelpdgpigaa.Rc
open Go.ChangeShapes Go.WideShapes Go.ChangeAt Go.RowKit Go.Deep
set_option linter.unusedVariables false
set_option maxRecDepth 100000

/-- a record -/
structure PieceD where
  f0 : Int
  f1 : ByteArray
/-- its cells -/
abbrev pieceC (D : PieceD) : List Value := [.int .i64 D.f0, .string D.f1]
/-- as a value -/
abbrev pieceV (D : PieceD) : Value := .agg #[.int .i64 D.f0, .string D.f1]
/-- how it lies in cells -/
def pieceK : Kd PieceD := ⟨fun D => [.int .i64 D.f0, .string D.f1], 2, ⟨0, ⟨#[]⟩⟩, fun _ => rfl, by decide, fun x u hu => by
  simp at hu
  rcases hu with rfl | rfl <;> rfl⟩

theorem piece_c0 (L : List PieceD) (k : Nat) : cl pieceK L (k * 2) = .int .i64 (gt pieceK L k).f0 := cl_at pieceK L k 0 (by decide)
theorem piece_c1 (L : List PieceD) (k : Nat) : cl pieceK L (k * 2 + 1) = .string (gt pieceK L k).f1 := cl_at pieceK L k 1 (by decide)
theorem piece_r0 {w : World} {b o k : Nat} {L : List PieceD} (h : ∀ q, q < L.length * pieceK.m → w.cell? ⟨b, o + q, none⟩ = some (cl pieceK L q)) (hk : k < L.length) : w.cell? ⟨b, o + k * 2, none⟩ = some (.int .i64 (gt pieceK L k).f0) := by
  have h1 := h (k * 2) (kq_at pieceK (j := 0) hk (by decide))
  rw [piece_c0] at h1
  exact h1
theorem piece_r1 {w : World} {b o k : Nat} {L : List PieceD} (h : ∀ q, q < L.length * pieceK.m → w.cell? ⟨b, o + q, none⟩ = some (cl pieceK L q)) (hk : k < L.length) : w.cell? ⟨b, o + k * 2 + 1, none⟩ = some (.string (gt pieceK L k).f1) := by
  have h1 := h (k * 2 + 1) (kq_at pieceK (j := 1) hk (by decide))
  rw [piece_c1, ← Nat.add_assoc] at h1
  exact h1
/-- what its texts weigh, and those of a row -/
def pieceT (D : PieceD) : Nat := D.f1.size
def pieceW (L : List PieceD) : Nat := (L.map pieceT).sum
theorem pieceW_take {L : List PieceD} {k : Nat} (h : k < L.length) : pieceW (L.take (k + 1)) = pieceW (L.take k) + pieceT (gt pieceK L k) := by
  have e : L.take (k + 1) = L.take k ++ [gt pieceK L k] := by rw [gt_of pieceK L k h]; exact (List.take_append_getElem h).symm
  unfold pieceW
  rw [e, List.map_append, List.sum_append]
  simp
theorem pieceW_mem {L : List PieceD} {x : PieceD} (h : x ∈ L) : pieceT x ≤ pieceW L := by
  induction L with
  | nil => cases h
  | cons y L ih =>
    unfold pieceW at *
    rw [List.map_cons, List.sum_cons]
    rcases List.mem_cons.1 h with rfl | h
    · omega
    · have := ih h
      omega
/-- what is left of a weight -/
def szPPiece (left n : Nat) (e : Ending) : Prop := e = .returned (.int .i64 (-1)) ∨ ∃ r : Nat, e = .returned (.int .i64 r) ∧ r + n ≤ left
/-- the marks of a row, from k0 on -/
def pieceM (k0 o : Nat) : Value := if o % 2 = 0 then .int .i64 ((k0 + o : Nat) : Int) else .string (mtT (k0 + o))
theorem piece_m0 (k0 i : Nat) : pieceM k0 (i * 2) = .int .i64 ((k0 + i * 2 : Nat) : Int) := by
  unfold pieceM
  rw [if_pos (show (i * 2) % 2 = 0 by omega)]
theorem piece_m1 (k0 i : Nat) : pieceM k0 (i * 2 + 1) = .string (mtT (k0 + i * 2 + 1)) := by
  unfold pieceM
  rw [if_neg (show ¬ (i * 2 + 1) % 2 = 0 by omega)]
  rw [Nat.add_assoc]
end Go.Proofs.Ytagnkelpdgpigaa.Rc
