/-
  Contracts: bytes and texts that the model draws.
-/
import Derived.Test.YtidgjjbdabifnabDoorXcu
import Derived.Test.YtidgjjbdabifnabDoorXas
namespace Go.Proofs.YtidgjjbdabifnabDoor.Dr
open Go.ChangeShapes Go.WideShapes Go.ChangeAt Go.RowKit
set_option linter.unusedVariables false

theorem Kx.setNew {cb : Nat} {a w : World} (h : Kx cb a w) {p : Addr} (hp : a.heap.size ≤ p.block) (u : Value) : Kx cb a (w.setCell p u) :=
  ⟨h.os, h.tape, h.output, by simpa [World.setCell] using h.size, fun k hk hne => (Below.heap_setCell _ _ _ _ (by omega)).trans (h.block k hk hne)⟩
theorem Cu.setNew {w0 w : World} {cb : Nat} {a : Option Addr} {N cap P P0 : Nat} (h0 : Cu w0 cb a N cap P0) (h : Cu w cb a N cap P) {g : Nat} (hg : w0.heap.size ≤ g) (o : Nat) (u : Value) : Cu (w.setCell ⟨g, o, none⟩ u) cb a N cap P := by
  have hl := h0.lt
  have hne : ∀ q : Nat, (⟨g, o, none⟩ : Addr) ≠ ⟨cb, q, none⟩ := fun q e => absurd (congrArg Addr.block e) (by show g ≠ cb; omega)
  have hc : ∀ q : Nat, (w.setCell ⟨g, o, none⟩ u).cell? ⟨cb, q, none⟩ = w.cell? ⟨cb, q, none⟩ := fun q => World.cell?_setCell_other _ _ _ _ (hne q)
  refine ⟨by simpa [World.setCell] using h.lt, (hc 0).trans h.c0, ?_, ?_, fun q => ?_, ?_⟩
  · obtain ⟨p, h1, h2⟩ := h.c1
    exact ⟨p, h1, (hc 1).trans h2⟩
  · obtain ⟨s, h1, h2, h3⟩ := h.c2
    exact ⟨s, h1, h2, (hc 2).trans h3⟩
  · have := h.fz q
    rw [← this]
    exact World.frozen?_of_block (w := w) (a := ⟨cb, q, none⟩) (Below.heap_setCell w ⟨g, o, none⟩ u cb (by show cb ≠ g; omega))
  · rcases h.cd with e | ⟨b, off, e, hl1, hn1, hx⟩
    · exact Or.inl e
    · rcases h0.cd with e0 | ⟨b0, off0, e0, hl0, _, _⟩
      · exact Or.inl e0
      · have hb : b = b0 := by
          rw [e] at e0
          simp at e0
          exact e0.1
        refine Or.inr ⟨b, off, e, by simpa [World.setCell] using hl1, hn1, fun i hi => ?_⟩
        obtain ⟨x, h1, h2⟩ := hx i hi
        refine ⟨x, h1, ?_⟩
        rw [World.cell?_setCell_other _ _ _ _ (fun e9 => absurd (congrArg Addr.block e9) (by show g ≠ b; omega))]
        exact h2
theorem Ar.kx {cb b o n : Nat} {f : Nat → Nat} {w w' : World} (h : Kx cb w w') (hI : Ar w b o n f) (hne : b ≠ cb) : Ar w' b o n f := by
  have e := h.block b hI.lt hne
  exact ⟨fun i hi => (World.cell?_of_block (a := ⟨b, o + i, none⟩) e).trans (hI.c i hi), fun i hi => (World.frozen?_of_block (a := ⟨b, o + i, none⟩) e).trans (hI.fz i hi), Nat.lt_of_lt_of_le hI.lt h.size⟩
theorem bq_le (n m : Nat) (f : Nat → Nat) (h : n ≤ m) : (bq n f).size ≤ m := by rw [bq_size]; exact h
end Go.Proofs.YtidgjjbdabifnabDoor.Dr
