/-
  Rows of texts: read, copied by the laws, weighed, held against each other, marked.
-/
import Derived.Test.YtgieglpjkjncfabDoorRcs
import Derived.Test.YtgieglpjkjncfabDoorStx
import Derived.Deep.QuietTactic
import Derived.Deep.RegionWith
import Derived.BigQuiet
namespace Go.Proofs.YtgieglpjkjncfabDoor.Rc
open Go.ChangeShapes Go.WideShapes Go.ChangeAt Go.RowKit Go.Deep
set_option linter.unusedVariables false
set_option maxRecDepth 100000

abbrev TextD := ByteArray
/-- how it lies in cells -/
def textK : Kd TextD := ⟨fun D => [.string D], 1, ⟨#[]⟩, fun _ => rfl, by decide, fun x u hu => by
  simp at hu
  subst hu
  rfl⟩
theorem text_c0 (L : List TextD) (k : Nat) : cl textK L k = .string (gt textK L k) := by
  have h := cl_at textK L k 0 (by decide)
  rw [show k * textK.m + 0 = k from Nat.mul_one k] at h
  exact h
theorem text_lt {L : List TextD} {k : Nat} (hk : k < L.length) : k < L.length * textK.m := by show k < L.length * 1; omega
theorem text_r0 {w : World} {b o k : Nat} {L : List TextD} (h : ∀ q, q < L.length * textK.m → w.cell? ⟨b, o + q, none⟩ = some (cl textK L q)) (hk : k < L.length) : w.cell? ⟨b, o + k, none⟩ = some (.string (gt textK L k)) := by
  have h1 := h k (text_lt hk)
  rw [text_c0] at h1
  exact h1
theorem Tryd.infoText : (Tryd.prog.info? 9).map (fun i => (i.zero, i.size, i.bytes)) = some (some (.string ⟨#[]⟩), 1, 16) := by kernel_rfl

/-- what the texts of a row weigh -/
def textT (D : TextD) : Nat := D.size
def textW (L : List TextD) : Nat := (L.map textT).sum
theorem textW_take {L : List TextD} {k : Nat} (h : k < L.length) : textW (L.take (k + 1)) = textW (L.take k) + textT (gt textK L k) := by
  have e : L.take (k + 1) = L.take k ++ [gt textK L k] := by rw [gt_of textK L k h]; exact (List.take_append_getElem h).symm
  unfold textW
  rw [e, List.map_append, List.sum_append]
  simp
theorem textW_mem {L : List TextD} {x : TextD} (h : x ∈ L) : textT x ≤ textW L := by
  induction L with
  | nil => cases h
  | cons y L ih =>
    unfold textW at *
    rw [List.map_cons, List.sum_cons]
    rcases List.mem_cons.1 h with rfl | h
    · omega
    · have := ih h
      omega
/-- what is left of a weight -/
def szPText (left n : Nat) (e : Ending) : Prop := e = .returned (.int .i64 (-1)) ∨ ∃ r : Nat, e = .returned (.int .i64 r) ∧ r + n ≤ left
/-- the marks of a row, from k0 on -/
def textM (k0 o : Nat) : Value := .string (mtT (k0 + o))
end Go.Proofs.YtgieglpjkjncfabDoor.Rc
