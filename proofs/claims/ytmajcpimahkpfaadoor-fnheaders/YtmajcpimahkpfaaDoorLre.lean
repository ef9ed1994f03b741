/-
  Contract: the model's reading of a header (l2Read).
-/
import Derived.Test.YtmajcpimahkpfaaDoorTot
import Derived.Test.YtmajcpimahkpfaaDoorHcp
namespace Go.Proofs.YtmajcpimahkpfaaDoor
open Go.ChangeShapes Go.WideShapes Go.ChangeAt Go.RowKit
set_option linter.unusedVariables false

theorem frozen_set2 (w : World) (a p : Addr) (u : Value) : (w.setCell a u).frozen? p = w.frozen? p := by simp
/-- a header's variable in block b -/
structure Hh (w : World) (b : Nat) (v0 v1 v2 v3 v4 v5 v6 v7 : Value) : Prop where
  lt : b < w.heap.size
  c0 : w.cell? ⟨b, 0, none⟩ = some v0
  c1 : w.cell? ⟨b, 1, none⟩ = some v1
  c2 : w.cell? ⟨b, 2, none⟩ = some v2
  c3 : w.cell? ⟨b, 3, none⟩ = some v3
  c4 : w.cell? ⟨b, 4, none⟩ = some v4
  c5 : w.cell? ⟨b, 5, none⟩ = some v5
  c6 : w.cell? ⟨b, 6, none⟩ = some v6
  c7 : w.cell? ⟨b, 7, none⟩ = some v7
  fz : ∀ o, w.frozen? ⟨b, o, none⟩ = false
theorem Hh.below {w w' : World} {b : Nat} {v0 v1 v2 v3 v4 v5 v6 v7 : Value} (h : Hh w b v0 v1 v2 v3 v4 v5 v6 v7) (hb : Below w.heap.size w w') : Hh w' b v0 v1 v2 v3 v4 v5 v6 v7 := by
  obtain ⟨hc, hf⟩ := bcell hb
  exact ⟨Nat.lt_of_lt_of_le h.lt hb.size, (hc _ _ h.lt).trans h.c0, (hc _ _ h.lt).trans h.c1, (hc _ _ h.lt).trans h.c2, (hc _ _ h.lt).trans h.c3, (hc _ _ h.lt).trans h.c4, (hc _ _ h.lt).trans h.c5, (hc _ _ h.lt).trans h.c6, (hc _ _ h.lt).trans h.c7, fun o => (hf _ _ h.lt).trans (h.fz o)⟩
theorem Hh.kx {w w' : World} {b rb : Nat} {v0 v1 v2 v3 v4 v5 v6 v7 : Value} (h : Hh w b v0 v1 v2 v3 v4 v5 v6 v7) (hk : Kx rb w w') (hne : b ≠ rb) : Hh w' b v0 v1 v2 v3 v4 v5 v6 v7 :=
  ⟨Nat.lt_of_lt_of_le h.lt hk.size, (hk.cell (p := ⟨b, 0, none⟩) h.lt hne).trans h.c0, (hk.cell (p := ⟨b, 1, none⟩) h.lt hne).trans h.c1, (hk.cell (p := ⟨b, 2, none⟩) h.lt hne).trans h.c2, (hk.cell (p := ⟨b, 3, none⟩) h.lt hne).trans h.c3, (hk.cell (p := ⟨b, 4, none⟩) h.lt hne).trans h.c4, (hk.cell (p := ⟨b, 5, none⟩) h.lt hne).trans h.c5, (hk.cell (p := ⟨b, 6, none⟩) h.lt hne).trans h.c6, (hk.cell (p := ⟨b, 7, none⟩) h.lt hne).trans h.c7, fun o => (hk.frozen (p := ⟨b, o, none⟩) h.lt hne).trans (h.fz o)⟩
theorem Hh.other {w : World} {b b' i : Nat} {u : Value} {v0 v1 v2 v3 v4 v5 v6 v7 : Value} (h : Hh w b v0 v1 v2 v3 v4 v5 v6 v7) (hne : b' ≠ b) : Hh (w.setCell ⟨b', i, none⟩ u) b v0 v1 v2 v3 v4 v5 v6 v7 := by
  have e : ∀ o, (w.setCell ⟨b', i, none⟩ u).cell? ⟨b, o, none⟩ = w.cell? ⟨b, o, none⟩ := fun o => World.cell?_setCell_other _ _ _ _ (by intro q; injection q with q1 _ _; exact hne q1)
  exact ⟨by simpa using h.lt, (e 0).trans h.c0, (e 1).trans h.c1, (e 2).trans h.c2, (e 3).trans h.c3, (e 4).trans h.c4, (e 5).trans h.c5, (e 6).trans h.c6, (e 7).trans h.c7, fun o => by rw [frozen_set2]; exact h.fz o⟩
theorem Hh.s0 {w : World} {b : Nat} {u : Value} {v0 v1 v2 v3 v4 v5 v6 v7 : Value} (h : Hh w b v0 v1 v2 v3 v4 v5 v6 v7) : Hh (w.setCell ⟨b, 0, none⟩ u) b u v1 v2 v3 v4 v5 v6 v7 :=
  ⟨by simpa using h.lt, World.cell?_setCell_same _ _ _ h.c0, (World.cell?_setCell_other _ _ _ _ (by simp)).trans h.c1, (World.cell?_setCell_other _ _ _ _ (by simp)).trans h.c2, (World.cell?_setCell_other _ _ _ _ (by simp)).trans h.c3, (World.cell?_setCell_other _ _ _ _ (by simp)).trans h.c4, (World.cell?_setCell_other _ _ _ _ (by simp)).trans h.c5, (World.cell?_setCell_other _ _ _ _ (by simp)).trans h.c6, (World.cell?_setCell_other _ _ _ _ (by simp)).trans h.c7, fun o => by rw [frozen_set2]; exact h.fz o⟩
theorem Hh.s1 {w : World} {b : Nat} {u : Value} {v0 v1 v2 v3 v4 v5 v6 v7 : Value} (h : Hh w b v0 v1 v2 v3 v4 v5 v6 v7) : Hh (w.setCell ⟨b, 1, none⟩ u) b v0 u v2 v3 v4 v5 v6 v7 :=
  ⟨by simpa using h.lt, (World.cell?_setCell_other _ _ _ _ (by simp)).trans h.c0, World.cell?_setCell_same _ _ _ h.c1, (World.cell?_setCell_other _ _ _ _ (by simp)).trans h.c2, (World.cell?_setCell_other _ _ _ _ (by simp)).trans h.c3, (World.cell?_setCell_other _ _ _ _ (by simp)).trans h.c4, (World.cell?_setCell_other _ _ _ _ (by simp)).trans h.c5, (World.cell?_setCell_other _ _ _ _ (by simp)).trans h.c6, (World.cell?_setCell_other _ _ _ _ (by simp)).trans h.c7, fun o => by rw [frozen_set2]; exact h.fz o⟩
theorem Hh.s2 {w : World} {b : Nat} {u : Value} {v0 v1 v2 v3 v4 v5 v6 v7 : Value} (h : Hh w b v0 v1 v2 v3 v4 v5 v6 v7) : Hh (w.setCell ⟨b, 2, none⟩ u) b v0 v1 u v3 v4 v5 v6 v7 :=
  ⟨by simpa using h.lt, (World.cell?_setCell_other _ _ _ _ (by simp)).trans h.c0, (World.cell?_setCell_other _ _ _ _ (by simp)).trans h.c1, World.cell?_setCell_same _ _ _ h.c2, (World.cell?_setCell_other _ _ _ _ (by simp)).trans h.c3, (World.cell?_setCell_other _ _ _ _ (by simp)).trans h.c4, (World.cell?_setCell_other _ _ _ _ (by simp)).trans h.c5, (World.cell?_setCell_other _ _ _ _ (by simp)).trans h.c6, (World.cell?_setCell_other _ _ _ _ (by simp)).trans h.c7, fun o => by rw [frozen_set2]; exact h.fz o⟩
theorem Hh.s3 {w : World} {b : Nat} {u : Value} {v0 v1 v2 v3 v4 v5 v6 v7 : Value} (h : Hh w b v0 v1 v2 v3 v4 v5 v6 v7) : Hh (w.setCell ⟨b, 3, none⟩ u) b v0 v1 v2 u v4 v5 v6 v7 :=
  ⟨by simpa using h.lt, (World.cell?_setCell_other _ _ _ _ (by simp)).trans h.c0, (World.cell?_setCell_other _ _ _ _ (by simp)).trans h.c1, (World.cell?_setCell_other _ _ _ _ (by simp)).trans h.c2, World.cell?_setCell_same _ _ _ h.c3, (World.cell?_setCell_other _ _ _ _ (by simp)).trans h.c4, (World.cell?_setCell_other _ _ _ _ (by simp)).trans h.c5, (World.cell?_setCell_other _ _ _ _ (by simp)).trans h.c6, (World.cell?_setCell_other _ _ _ _ (by simp)).trans h.c7, fun o => by rw [frozen_set2]; exact h.fz o⟩
theorem Hh.s4 {w : World} {b : Nat} {u : Value} {v0 v1 v2 v3 v4 v5 v6 v7 : Value} (h : Hh w b v0 v1 v2 v3 v4 v5 v6 v7) : Hh (w.setCell ⟨b, 4, none⟩ u) b v0 v1 v2 v3 u v5 v6 v7 :=
  ⟨by simpa using h.lt, (World.cell?_setCell_other _ _ _ _ (by simp)).trans h.c0, (World.cell?_setCell_other _ _ _ _ (by simp)).trans h.c1, (World.cell?_setCell_other _ _ _ _ (by simp)).trans h.c2, (World.cell?_setCell_other _ _ _ _ (by simp)).trans h.c3, World.cell?_setCell_same _ _ _ h.c4, (World.cell?_setCell_other _ _ _ _ (by simp)).trans h.c5, (World.cell?_setCell_other _ _ _ _ (by simp)).trans h.c6, (World.cell?_setCell_other _ _ _ _ (by simp)).trans h.c7, fun o => by rw [frozen_set2]; exact h.fz o⟩
theorem Hh.s5 {w : World} {b : Nat} {u : Value} {v0 v1 v2 v3 v4 v5 v6 v7 : Value} (h : Hh w b v0 v1 v2 v3 v4 v5 v6 v7) : Hh (w.setCell ⟨b, 5, none⟩ u) b v0 v1 v2 v3 v4 u v6 v7 :=
  ⟨by simpa using h.lt, (World.cell?_setCell_other _ _ _ _ (by simp)).trans h.c0, (World.cell?_setCell_other _ _ _ _ (by simp)).trans h.c1, (World.cell?_setCell_other _ _ _ _ (by simp)).trans h.c2, (World.cell?_setCell_other _ _ _ _ (by simp)).trans h.c3, (World.cell?_setCell_other _ _ _ _ (by simp)).trans h.c4, World.cell?_setCell_same _ _ _ h.c5, (World.cell?_setCell_other _ _ _ _ (by simp)).trans h.c6, (World.cell?_setCell_other _ _ _ _ (by simp)).trans h.c7, fun o => by rw [frozen_set2]; exact h.fz o⟩
theorem Hh.s6 {w : World} {b : Nat} {u : Value} {v0 v1 v2 v3 v4 v5 v6 v7 : Value} (h : Hh w b v0 v1 v2 v3 v4 v5 v6 v7) : Hh (w.setCell ⟨b, 6, none⟩ u) b v0 v1 v2 v3 v4 v5 u v7 :=
  ⟨by simpa using h.lt, (World.cell?_setCell_other _ _ _ _ (by simp)).trans h.c0, (World.cell?_setCell_other _ _ _ _ (by simp)).trans h.c1, (World.cell?_setCell_other _ _ _ _ (by simp)).trans h.c2, (World.cell?_setCell_other _ _ _ _ (by simp)).trans h.c3, (World.cell?_setCell_other _ _ _ _ (by simp)).trans h.c4, (World.cell?_setCell_other _ _ _ _ (by simp)).trans h.c5, World.cell?_setCell_same _ _ _ h.c6, (World.cell?_setCell_other _ _ _ _ (by simp)).trans h.c7, fun o => by rw [frozen_set2]; exact h.fz o⟩
theorem Hh.s7 {w : World} {b : Nat} {u : Value} {v0 v1 v2 v3 v4 v5 v6 v7 : Value} (h : Hh w b v0 v1 v2 v3 v4 v5 v6 v7) : Hh (w.setCell ⟨b, 7, none⟩ u) b v0 v1 v2 v3 v4 v5 v6 u :=
  ⟨by simpa using h.lt, (World.cell?_setCell_other _ _ _ _ (by simp)).trans h.c0, (World.cell?_setCell_other _ _ _ _ (by simp)).trans h.c1, (World.cell?_setCell_other _ _ _ _ (by simp)).trans h.c2, (World.cell?_setCell_other _ _ _ _ (by simp)).trans h.c3, (World.cell?_setCell_other _ _ _ _ (by simp)).trans h.c4, (World.cell?_setCell_other _ _ _ _ (by simp)).trans h.c5, (World.cell?_setCell_other _ _ _ _ (by simp)).trans h.c6, World.cell?_setCell_same _ _ _ h.c7, fun o => by rw [frozen_set2]; exact h.fz o⟩
theorem Hh.new (w : World) (T : TypeId) (v0 v1 v2 v3 v4 v5 v6 v7 : Value) : Hh (w.alloc (.cells #[v0, v1, v2, v3, v4, v5, v6, v7] T)) w.heap.size v0 v1 v2 v3 v4 v5 v6 v7 := by
  refine ⟨by simp, ?_, ?_, ?_, ?_, ?_, ?_, ?_, ?_, fun o => by simp [go_sem]⟩ <;> simp

theorem Lr.other {w : World} {rb p b i : Nat} {s : ByteArray} {c : Int} {u : Value} (h : Lr w rb s p c) (hne : b ≠ rb) : Lr (w.setCell ⟨b, i, none⟩ u) rb s p c := by
  have e : ∀ o, (w.setCell ⟨b, i, none⟩ u).cell? ⟨rb, o, none⟩ = w.cell? ⟨rb, o, none⟩ := fun o => World.cell?_setCell_other _ _ _ _ (by intro q; injection q with q1 _ _; exact hne q1)
  exact ⟨by simpa using h.lt, (e 0).trans h.c0, (e 1).trans h.c1, (e 2).trans h.c2, fun o => by rw [frozen_set2]; exact h.fz o⟩
theorem Kx.fresh {cb : Nat} {a w : World} {b i : Nat} {u : Value} (h : Kx cb a w) (hb : a.heap.size ≤ b) : Kx cb a (w.setCell ⟨b, i, none⟩ u) :=
  ⟨h.os, h.tape, h.output, by simpa using h.size, fun k hk hne => (Below.heap_setCell w ⟨b, i, none⟩ u k (by simp; omega)).trans (h.block k hk hne)⟩
theorem Kx.alloc {cb : Nat} {a w : World} (h : Kx cb a w) (o : Obj) : Kx cb a (w.alloc o) :=
  h.trans ⟨rfl, rfl, rfl, by simp, fun k hk _ => Below.heap_alloc _ _ _ hk⟩

/-! the first byte's parts -/
theorem b15 (s : ByteArray) (p : Nat) : bits .and .i64 (at8 s p) 15 = at8 s p % 16 := by
  have key : ∀ k : Fin 256, bits .and .i64 (k.val : Int) 15 = (k.val : Int) % 16 := by decide +kernel
  have b := at8_in s p
  have := key ⟨(at8 s p).toNat, by omega⟩
  rwa [show (((at8 s p).toNat : Nat) : Int) = at8 s p by omega] at this
theorem b64 (s : ByteArray) (p : Nat) : bits .and .i64 (at8 s p) 64 = at8 s p / 64 % 2 * 64 := by
  have key : ∀ k : Fin 256, bits .and .i64 (k.val : Int) 64 = (k.val : Int) / 64 % 2 * 64 := by decide +kernel
  have b := at8_in s p
  have := key ⟨(at8 s p).toNat, by omega⟩
  rwa [show (((at8 s p).toNat : Nat) : Int) = at8 s p by omega] at this
theorem b48 (s : ByteArray) (p : Nat) : bits .and .i64 (at8 s p) 48 = at8 s p / 16 % 4 * 16 := by
  have key : ∀ k : Fin 256, bits .and .i64 (k.val : Int) 48 = (k.val : Int) / 16 % 4 * 16 := by decide +kernel
  have b := at8_in s p
  have := key ⟨(at8 s p).toNat, by omega⟩
  rwa [show (((at8 s p).toNat : Nat) : Int) = at8 s p by omega] at this
theorem b3 (s : ByteArray) (p : Nat) : bits .and .i64 (at8 s p / 16) 3 = at8 s p / 16 % 4 := by
  have key : ∀ k : Fin 256, bits .and .i64 ((k.val : Int) / 16) 3 = (k.val : Int) / 16 % 4 := by decide +kernel
  have b := at8_in s p
  have := key ⟨(at8 s p).toNat, by omega⟩
  rwa [show (((at8 s p).toNat : Nat) : Int) = at8 s p by omega] at this

abbrev nilS : Value := .slice none 0 0
abbrev sE : ByteArray := ⟨#[]⟩

/-- the result's variable, when l2Read begins -/
abbrev wZ (w : World) : World := w.alloc (.cells #[.int .i64 0, .int .i64 0, .int .i64 0, .string sE, .string sE, .string sE, .string sE, nilS] 25)
abbrev Zh (w : World) (b : Nat) : Prop := Hh w b (.int .i64 0) (.int .i64 0) (.int .i64 0) (.string sE) (.string sE) (.string sE) (.string sE) nilS
theorem wZ_h (w : World) : Zh (wZ w) w.heap.size := Hh.new _ _ _ _ _ _ _ _ _ _
theorem wZ_b (w : World) : Below w.heap.size w (wZ w) := (Below.refl _ _).alloc (Nat.le_refl _) _
end Go.Proofs.YtmajcpimahkpfaaDoor
