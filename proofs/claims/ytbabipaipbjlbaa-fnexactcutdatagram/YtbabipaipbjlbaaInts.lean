/-
  Contracts: lists of numbers: the laws' own copies of them, and how they are held against each other.
-/
import Derived.Test.YtbabipaipbjlbaaBase
import Derived.Deep.QuietTactic
import Derived.BigQuiet
import Derived.Laws.ResultCell
import Derived.Deep.RegionWith
namespace Go.Proofs.Ytbabipaipbjlbaa
open Go.ChangeShapes Go.WideShapes Go.ChangeAt Go.RowKit
set_option linter.unusedVariables false
set_option maxRecDepth 100000

/-- A slice of n numbers: nil, or cells that hold each. -/
structure Ir (w : World) (b off n : Nat) (V : Nat → Int) : Prop where
  lt : n = 0 ∨ b < w.heap.size
  cv : ∀ i, i < n → w.cell? ⟨b, off + i, none⟩ = some (.int .i64 (V i))
  bv : ∀ i, i < n → -9223372036854775808 ≤ V i ∧ V i ≤ 9223372036854775807
theorem Ir.below {w w' : World} {b off n : Nat} {V : Nat → Int} (h : Ir w b off n V) (hb : Below w.heap.size w w') : Ir w' b off n V := by
  refine ⟨?_, ?_, h.bv⟩
  · rcases h.lt with h1 | h1
    · exact Or.inl h1
    · exact Or.inr (Nat.lt_of_lt_of_le h1 hb.size)
  · intro i hi
    rcases h.lt with h1 | h1
    · omega
    · exact (hb.cell (p := ⟨b, off + i, none⟩) h1).trans (h.cv i hi)
theorem Ir.alloc {w : World} {b off n : Nat} {V : Nat → Int} (h : Ir w b off n V) (o : Obj) : Ir (w.alloc o) b off n V := h.below ((Below.refl _ _).alloc (Nat.le_refl _) _)
theorem Ir.setOther {w : World} {b off n : Nat} {V : Nat → Int} {a : Addr} {u : Value} (h : Ir w b off n V) (hne : a.block ≠ b) : Ir (w.setCell a u) b off n V := by
  refine ⟨?_, ?_, h.bv⟩
  · rcases h.lt with h1 | h1
    · exact Or.inl h1
    · exact Or.inr (by simpa using h1)
  · intro i hi
    rw [World.cell?_setCell_other _ _ _ _ (by intro e; rw [e] at hne; simp at hne)]; exact h.cv i hi
/-- A slice of numbers that came in: empty, or as 'Ir' says. -/
def Ia (w : World) (a : Option Addr) (n cap : Nat) (V : Nat → Int) : Prop := n = 0 ∨ ∃ b off, a = some ⟨b, off, none⟩ ∧ Ir w b off n V
theorem Ia.below {w w' : World} {a : Option Addr} {n cap : Nat} {V : Nat → Int} (h : Ia w a n cap V) (hb : Below w.heap.size w w') : Ia w' a n cap V := by
  rcases h with h | ⟨b, off, e, h⟩
  · exact Or.inl h
  · exact Or.inr ⟨b, off, e, h.below hb⟩

/-- A slice of numbers in the making: k of n are laid. -/
structure Mi (w wr : World) (n k : Nat) (V : Nat → Int) : Prop where
  bel : Below w.heap.size w wr
  lt : w.heap.size < wr.heap.size
  cf : ∀ j, j < k → wr.cell? ⟨w.heap.size, j, none⟩ = some (.int .i64 (V j))
  rf : ∀ j, j < n → (wr.cell? ⟨w.heap.size, j, none⟩).isSome = true
  fz : ∀ o, wr.frozen? ⟨w.heap.size, o, none⟩ = false
theorem isSome_set {w : World} {a p : Addr} {u : Value} (h : (w.cell? p).isSome = true) : ((w.setCell a u).cell? p).isSome = true := by
  by_cases e : a = p
  · subst e
    obtain ⟨v, hv⟩ := Option.isSome_iff_exists.1 h
    rw [World.cell?_setCell_same _ _ _ hv]; rfl
  · rw [World.cell?_setCell_other _ _ _ _ e]; exact h
theorem frozen_set (w : World) (a p : Addr) (u : Value) : (w.setCell a u).frozen? p = w.frozen? p := by simp
theorem Mi.step {w wr : World} {n k : Nat} {V : Nat → Int} (h : Mi w wr n k V) (hk : k < n) : Mi w (wr.setCell ⟨w.heap.size, k, none⟩ (.int .i64 (V k))) n (k + 1) V := by
  obtain ⟨v0, e0⟩ := Option.isSome_iff_exists.1 (h.rf k hk)
  refine ⟨h.bel.setCell (Nat.le_refl _) _, by simpa using h.lt, ?_, ?_, ?_⟩
  · intro j hj
    by_cases e : j = k
    · subst e; exact World.cell?_setCell_same _ _ _ e0
    · rw [World.cell?_setCell_other _ _ _ _ (by intro e; simp at e <;> omega)]; exact h.cf j (by omega)
  · intro j hj; exact isSome_set (h.rf j hj)
  · intro o; rw [frozen_set]; exact h.fz o

theorem infoI : (Try.prog.info? 3).map (fun i => (i.zero, i.size, i.bytes)) = some (some (.int .i64 0), 1, 8) := by kernel_rfl
theorem infoI_parts : ∃ i0, Try.prog.info? 3 = some i0 ∧ i0.zero = some (.int .i64 0) ∧ i0.size = 1 ∧ i0.bytes = 8 := by
  have h := infoI
  cases e : Try.prog.info? 3 with
  | none => rw [e] at h; cases h
  | some i0 => rw [e] at h; simp at h; exact ⟨i0, rfl, h.1, h.2.1, h.2.2⟩

end Go.Proofs.Ytbabipaipbjlbaa
