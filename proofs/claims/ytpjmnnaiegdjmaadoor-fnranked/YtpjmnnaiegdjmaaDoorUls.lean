/-
  Contracts: rows of words: the laws' own copies, marks, and how they are held against each other.
-/
import Derived.Test.YtpjmnnaiegdjmaaDoorOww
import Derived.Deep.QuietTactic
import Derived.BigQuiet
import Derived.Laws.ResultCell
import Derived.Deep.RegionWith
namespace Go.Proofs.YtpjmnnaiegdjmaaDoor
open Go.ChangeShapes Go.WideShapes Go.ChangeAt Go.RowKit
set_option linter.unusedVariables false

/-- words at a place of a block, to be read -/
structure Rw (w : World) (b o n : Nat) (f : Nat → Nat) : Prop where
  c : ∀ i, i < n → w.cell? ⟨b, o + i, none⟩ = some (.int .u32 (f i : Nat))
  lt : b < w.heap.size
theorem Aw.r {w : World} {b o n : Nat} {f : Nat → Nat} (h : Aw w b o n f) : Rw w b o n f := ⟨h.c, h.lt⟩
theorem Rw.below {w w' : World} {B b o n : Nat} {f : Nat → Nat} (h : Rw w b o n f) (hb : Below B w w') (hB : b < B) : Rw w' b o n f :=
  ⟨fun i hi => by rw [hb.cell (p := ⟨b, o + i, none⟩) hB]; exact h.c i hi, Nat.lt_of_lt_of_le h.lt hb.size⟩
theorem Rw.kept {w w' : World} {b o n : Nat} {f : Nat → Nat} (h : Rw w b o n f) (hb : Below w.heap.size w w') : Rw w' b o n f := h.below hb h.lt
theorem Rw.congr {w : World} {b o n : Nat} {f g : Nat → Nat} (h : Rw w b o n f) (e : ∀ i, i < n → f i = g i) : Rw w b o n g :=
  ⟨fun i hi => by rw [h.c i hi, e i hi], h.lt⟩
theorem Rw.range {w : World} {b o n : Nat} {f : Nat → Nat} (h : Rw w b o n f) : w.rangeAt b o (uw n f) := by
  intro j v hv
  simp only [uw_def, List.getElem?_map] at hv
  by_cases e : j < n
  · rw [List.getElem?_range e] at hv
    simp at hv
    subst hv
    exact h.c j e
  · rw [List.getElem?_eq_none (by simp; omega)] at hv
    simp at hv
/-- all but block g is as it was -/
structure Kb (g : Nat) (w w' : World) : Prop where
  os : w'.os = w.os
  tape : w'.tape = w.tape
  output : w'.output = w.output
  size : w'.heap.size = w.heap.size
  block : ∀ k, k ≠ g → w'.heap[k]? = w.heap[k]?
theorem Kb.below {g : Nat} {w w' : World} (h : Kb g w w') {base : Nat} (hb : base ≤ g) : Below base w w' :=
  ⟨h.os, h.tape, h.output, Nat.le_of_eq h.size.symm, fun k hk => h.block k (by omega)⟩
theorem Kb.refl (g : Nat) (w : World) : Kb g w w := ⟨rfl, rfl, rfl, rfl, fun _ _ => rfl⟩
theorem Kb.set {g q : Nat} {w w' : World} {u : Value} (h : Kb g w w') : Kb g w (w'.setCell ⟨g, q, none⟩ u) :=
  ⟨h.os, h.tape, h.output, by simpa using h.size, fun k hk => (Below.heap_setCell w' ⟨g, q, none⟩ u k hk).trans (h.block k hk)⟩
theorem Kb.rw {g b o n : Nat} {f : Nat → Nat} {w w' : World} (h : Kb g w w') (hI : Rw w b o n f) (hne : b ≠ g) : Rw w' b o n f := by
  have e := h.block b hne
  exact ⟨fun i hi => (World.cell?_of_block (a := ⟨b, o + i, none⟩) e).trans (hI.c i hi), by rw [h.size]; exact hI.lt⟩
theorem Kb.aw {g b o n : Nat} {f : Nat → Nat} {w w' : World} (h : Kb g w w') (hI : Aw w b o n f) (hne : b ≠ g) : Aw w' b o n f := by
  have e := h.block b hne
  exact ⟨fun i hi => (World.cell?_of_block (a := ⟨b, o + i, none⟩) e).trans (hI.c i hi), fun i hi => (World.frozen?_of_block (a := ⟨b, o + i, none⟩) e).trans (hI.fz i hi), by rw [h.size]; exact hI.lt⟩
/-- the marks k, k + 1, .. -/
def mk1 (k i : Nat) : Nat := k + i

/-- a slice of words that came in -/
def Ua (w : World) (a : Option Addr) (n : Nat) (f : Nat → Nat) : Prop := n = 0 ∨ ∃ b o, a = some ⟨b, o, none⟩ ∧ Rw w b o n f
theorem Ua.kept {w w' : World} {B : Nat} {a : Option Addr} {n : Nat} {f : Nat → Nat} (h : Ua w a n f) (hb : Below w.heap.size w w') : Ua w' a n f := by
  rcases h with h | ⟨b, o, e, h⟩
  · exact Or.inl h
  · exact Or.inr ⟨b, o, e, h.kept hb⟩
end Go.Proofs.YtpjmnnaiegdjmaaDoor
