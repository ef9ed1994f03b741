/-
  Blocks that hold just these cells, and may be written.
-/
import Derived.Test.YtagnkelpdgpigaaBase
namespace Go.Proofs.Ytagnkelpdgpigaa
open Go.ChangeShapes Go.WideShapes Go.ChangeAt Go.RowKit
set_option linter.unusedVariables false

/-- block b holds these cells, and they may be written -/
structure Bx (w : World) (b : Nat) (xs : List Value) : Prop where
  lt : b < w.heap.size
  cv : ∀ o, w.cell? ⟨b, o, none⟩ = xs[o]?
  fz : ∀ o, w.frozen? ⟨b, o, none⟩ = false
theorem Bx.below {w w' : World} {b : Nat} {xs : List Value} (h : Bx w b xs) (hb : Below w.heap.size w w') : Bx w' b xs :=
  ⟨Nat.lt_of_lt_of_le h.lt hb.size, fun o => (hb.cell (p := ⟨b, o, none⟩) h.lt).trans (h.cv o), fun o => (hb.frozen (p := ⟨b, o, none⟩) h.lt).trans (h.fz o)⟩
theorem Bx.alloc {w : World} {b : Nat} {xs : List Value} (h : Bx w b xs) (o : Obj) : Bx (w.alloc o) b xs := h.below ((Below.refl _ _).alloc (Nat.le_refl _) _)
theorem Bx.drew {w : World} {b : Nat} {xs : List Value} (h : Bx w b xs) : Bx w.drew b xs := h.below (Below.refl _ _).drew
theorem Bx.new (w : World) (xs : List Value) (T : TypeId) : Bx (w.alloc (.cells xs.toArray T)) w.heap.size xs :=
  ⟨by simp, fun o => by simp, fun o => (frozen?_alloc_cells w _ T _).trans (by simp [World.frozen?])⟩
theorem Bx.newAt (w : World) (b : Nat) (xs : List Value) (T : TypeId) (h : w.heap.size = b) : Bx (w.alloc (.cells xs.toArray T)) b xs := h ▸ Bx.new w xs T
theorem Bx.kept {w w' : World} {b : Nat} {xs : List Value} (h : Bx w b xs) (hs : w.heap.size ≤ w'.heap.size) (e : w'.heap[b]? = w.heap[b]?) : Bx w' b xs :=
  ⟨Nat.lt_of_lt_of_le h.lt hs, fun o => (World.cell?_of_block (a := ⟨b, o, none⟩) e).trans (h.cv o), fun o => (World.frozen?_of_block (a := ⟨b, o, none⟩) e).trans (h.fz o)⟩
theorem Bx.other {w : World} {b c i : Nat} {u : Value} {xs : List Value} (h : Bx w b xs) (hne : c ≠ b) : Bx (w.setCell ⟨c, i, none⟩ u) b xs :=
  h.kept (by simp) (Below.heap_setCell w ⟨c, i, none⟩ u b (by simpa using fun e => hne e.symm))
theorem Bx.set {w : World} {b i : Nat} {u : Value} {xs : List Value} (h : Bx w b xs) (hi : i < xs.length) : Bx (w.setCell ⟨b, i, none⟩ u) b (xs.set i u) := by
  refine ⟨by simpa using h.lt, fun o => ?_, fun o => by simpa using h.fz o⟩
  by_cases e : o = i
  · subst e
    rw [World.cell?_setCell_same _ _ _ ((h.cv o).trans (List.getElem?_eq_getElem hi))]
    simp [hi]
  · rw [World.cell?_setCell_other _ _ _ _ (by intro e'; injection e' with _ e'' _; exact e e''.symm), h.cv o, List.getElem?_set_ne (fun q => e q.symm)]
end Go.Proofs.Ytagnkelpdgpigaa
