/-
  Rows of texts: held against each other, marked, held; the marks themselves.
-/
import Derived.Test.YtagnkelpdgpigaaBase
import Derived.Laws.Concat
import Derived.Deep.RegionHeld3
import Derived.Deep.DeepCutAuto
import Derived.Deep.QuietTactic
import Derived.BigQuiet
namespace Go.Proofs.Ytagnkelpdgpigaa
open Go.ChangeShapes Go.WideShapes Go.ChangeAt Go.RowKit
set_option linter.unusedVariables false
set_option maxRecDepth 100000

/-- a number's digits ahead of a text -/
def mtG : Nat → Nat → ByteArray → ByteArray
  | 0, _, o => o
  | f + 1, k, o => if k = 0 then o else mtG f (k / 10) (⟨#[UInt8.ofNat (48 + k % 10)]⟩ ++ o)
theorem mtG_zero (f : Nat) (o : ByteArray) : mtG f 0 o = o := by
  cases f with
  | zero => rfl
  | succ f => rw [mtG, if_pos rfl]
/-- a mark -/
def mtT (k : Nat) : ByteArray := ⟨#[109]⟩ ++ mtG k k ⟨#[]⟩
/-- a row of texts to be read -/
structure Sr (w : World) (b o n : Nat) (F : Nat → ByteArray) : Prop where
  lt : b < w.heap.size
  c : ∀ i, i < n → w.cell? ⟨b, o + i, none⟩ = some (.string (F i))
theorem Sr.kept {w w' : World} {b o n : Nat} {F : Nat → ByteArray} (h : Sr w b o n F) (hb : Below w.heap.size w w') : Sr w' b o n F := by
  obtain ⟨hc, hf⟩ := bcell hb
  exact ⟨Nat.lt_of_lt_of_le h.lt hb.size, fun i hi => (hc _ _ h.lt).trans (h.c i hi)⟩
/-- a slice of texts -/
def Sa (w : World) (a : Option Addr) (n : Nat) (F : Nat → ByteArray) : Prop := n = 0 ∨ ∃ b o, a = some ⟨b, o, none⟩ ∧ Sr w b o n F
theorem Sa.kept {w w' : World} {a : Option Addr} {n : Nat} {F : Nat → ByteArray} (h : Sa w a n F) (hb : Below w.heap.size w w') : Sa w' a n F := by
  rcases h with h | ⟨b, o, e, h⟩
  · exact Or.inl h
  · exact Or.inr ⟨b, o, e, h.kept hb⟩
/-- a row of texts of the call's own, that may be written -/
structure Sw (base : Nat) (w : World) (g n : Nat) (F : Nat → ByteArray) : Prop where
  ge : base ≤ g
  lt : g < w.heap.size
  c : ∀ i, i < n → w.cell? ⟨g, i, none⟩ = some (.string (F i))
  fz : ∀ i, i < n → w.frozen? ⟨g, i, none⟩ = false
theorem Sw.kept {base : Nat} {w w' : World} {g n : Nat} {F : Nat → ByteArray} (h : Sw base w g n F) (hb : Below w.heap.size w w') : Sw base w' g n F := by
  obtain ⟨hc, hf⟩ := bcell hb
  exact ⟨h.ge, Nat.lt_of_lt_of_le h.lt hb.size, fun i hi => (hc _ _ h.lt).trans (h.c i hi), fun i hi => (hf _ _ h.lt).trans (h.fz i hi)⟩
def Sn (base : Nat) (w : World) (a : Option Addr) (n : Nat) (F : Nat → ByteArray) : Prop := n = 0 ∨ ∃ g, a = some ⟨g, 0, none⟩ ∧ Sw base w g n F
theorem Sn.kept {base : Nat} {w w' : World} {a : Option Addr} {n : Nat} {F : Nat → ByteArray} (h : Sn base w a n F) (hb : Below w.heap.size w w') : Sn base w' a n F := by
  rcases h with h | ⟨g, e, h⟩
  · exact Or.inl h
  · exact Or.inr ⟨g, e, h.kept hb⟩
theorem Sn.sa {base : Nat} {w : World} {a : Option Addr} {n : Nat} {F : Nat → ByteArray} (h : Sn base w a n F) : Sa w a n F := by
  rcases h with h | ⟨g, e, h⟩
  · exact Or.inl h
  · exact Or.inr ⟨g, 0, e, h.lt, fun i hi => by rw [Nat.zero_add]; exact h.c i hi⟩
/-- all that was there but the slice's own row is kept -/
structure Kg (a : Option Addr) (w w' : World) : Prop where
  os : w'.os = w.os
  tape : w'.tape = w.tape
  output : w'.output = w.output
  size : w.heap.size ≤ w'.heap.size
  block : ∀ k, k < w.heap.size → (∀ g, a = some ⟨g, 0, none⟩ → k ≠ g) → w'.heap[k]? = w.heap[k]?
theorem Kg.refl (a : Option Addr) (w : World) : Kg a w w := ⟨rfl, rfl, rfl, Nat.le_refl _, fun _ _ _ => rfl⟩
theorem Kg.trans {a : Option Addr} {w w1 w2 : World} (h : Kg a w w1) (k : Kg a w1 w2) : Kg a w w2 :=
  ⟨k.os.trans h.os, k.tape.trans h.tape, k.output.trans h.output, Nat.le_trans h.size k.size, fun q hq hn => (k.block q (Nat.lt_of_lt_of_le hq h.size) hn).trans (h.block q hq hn)⟩
theorem Kg.of {a : Option Addr} {w w' : World} (h : Below w.heap.size w w') : Kg a w w' := ⟨h.os, h.tape, h.output, h.size, fun k hk _ => h.block k hk⟩
theorem Kg.set {g i : Nat} {w w' : World} {u : Value} (h : Kg (some ⟨g, 0, none⟩) w w') : Kg (some ⟨g, 0, none⟩) w (w'.setCell ⟨g, i, none⟩ u) :=
  ⟨h.os, h.tape, h.output, by simpa [World.setCell] using h.size, fun k hk hn => (Below.heap_setCell w' ⟨g, i, none⟩ u k (hn g rfl)).trans (h.block k hk hn)⟩
theorem Kg.sr {a : Option Addr} {w w' : World} {b o n : Nat} {F : Nat → ByteArray} (h : Kg a w w') (hI : Sr w b o n F) (hne : ∀ g, a = some ⟨g, 0, none⟩ → b ≠ g) : Sr w' b o n F := by
  have e := h.block b hI.lt hne
  exact ⟨Nat.lt_of_lt_of_le hI.lt h.size, fun i hi => (World.cell?_of_block (a := ⟨b, o + i, none⟩) e).trans (hI.c i hi)⟩
theorem Kg.below {a : Option Addr} {w w' : World} {base : Nat} (h : Kg a w w') (hb : base ≤ w.heap.size) (hg : ∀ g, a = some ⟨g, 0, none⟩ → base ≤ g) : Below base w w' :=
  ⟨h.os, h.tape, h.output, h.size, fun k hk => h.block k (by omega) (fun g e => by have := hg g e; omega)⟩
/-- the marks k, k + 1, .. -/
def mkS (k i : Nat) : ByteArray := mtT (k + i)
/-- the first i places of f, the others of g -/
def stS (f g : Nat → ByteArray) (k i : Nat) : ByteArray := if i < k then f i else g i
end Go.Proofs.Ytagnkelpdgpigaa
