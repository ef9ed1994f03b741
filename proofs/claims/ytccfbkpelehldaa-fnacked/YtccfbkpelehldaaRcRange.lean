/-
  Rows of impl.Range: read, copied by the laws, weighed, held against each other, marked.
-/
import Derived.Test.YtccfbkpelehldaaRcs
import Derived.Deep.QuietTactic
import Derived.Deep.RegionWith
import Derived.BigQuiet
namespace Go.Proofs.Ytccfbkpelehldaa.Rc
open Go.ChangeShapes Go.WideShapes Go.ChangeAt Go.RowKit Go.Deep
set_option linter.unusedVariables false
set_option maxRecDepth 100000

/-- a record -/
structure RangeD where
  f0 : Int
  f1 : Int
/-- its cells -/
abbrev rangeC (D : RangeD) : List Value := [.int .i64 D.f0, .int .i64 D.f1]
/-- as a value -/
abbrev rangeV (D : RangeD) : Value := .agg #[.int .i64 D.f0, .int .i64 D.f1]
/-- how it lies in cells -/
def rangeK : Kd RangeD := ⟨fun D => [.int .i64 D.f0, .int .i64 D.f1], 2, ⟨0, 0⟩, fun _ => rfl, by decide, fun x u hu => by
  simp at hu
  rcases hu with rfl | rfl <;> rfl⟩

theorem range_c0 (L : List RangeD) (k : Nat) : cl rangeK L (k * 2) = .int .i64 (gt rangeK L k).f0 := cl_at rangeK L k 0 (by decide)
theorem range_c1 (L : List RangeD) (k : Nat) : cl rangeK L (k * 2 + 1) = .int .i64 (gt rangeK L k).f1 := cl_at rangeK L k 1 (by decide)
theorem range_r0 {w : World} {b o k : Nat} {L : List RangeD} (h : ∀ q, q < L.length * rangeK.m → w.cell? ⟨b, o + q, none⟩ = some (cl rangeK L q)) (hk : k < L.length) : w.cell? ⟨b, o + k * 2, none⟩ = some (.int .i64 (gt rangeK L k).f0) := by
  have h1 := h (k * 2) (kq_at rangeK (j := 0) hk (by decide))
  rw [range_c0] at h1
  exact h1
theorem range_r1 {w : World} {b o k : Nat} {L : List RangeD} (h : ∀ q, q < L.length * rangeK.m → w.cell? ⟨b, o + q, none⟩ = some (cl rangeK L q)) (hk : k < L.length) : w.cell? ⟨b, o + k * 2 + 1, none⟩ = some (.int .i64 (gt rangeK L k).f1) := by
  have h1 := h (k * 2 + 1) (kq_at rangeK (j := 1) hk (by decide))
  rw [range_c1, ← Nat.add_assoc] at h1
  exact h1
theorem Try.infoRange : (Try.prog.info? 53).map (fun i => (i.zero, i.size, i.bytes)) = some (some (.agg #[.int .i64 0, .int .i64 0]), 2, 16) := by kernel_rfl
/-- one more is put behind -/
theorem pushRange (w : World) (base : Nat) (v : Value) (L : List RangeD) (D : RangeD) (hown : Ro rangeK 53 base w v L) (hb : L.length ≤ 1048576) (hbase : base ≤ w.heap.size) :
    ∃ v' w', (Builtin.append_ #[28, 28] 28 #[v, .slice (some ⟨w.heap.size, 0, none⟩) 1 1]).run Try.prog (w.alloc (.cells #[.int .i64 D.f0, .int .i64 D.f1] 53)) = .ok v' w' ∧ Ro rangeK 53 base w' v' (L ++ [D]) ∧ Below base w w' ∧ ∀ q, q < w.heap.size → (∀ g, v.ownBlock = some g → q ≠ g) → w'.heap[q]? = w.heap[q]? := by
  obtain ⟨i0, hi, hz0, hz1, hz2⟩ := info_parts Try.infoRange
  have hA := (Below.refl w.heap.size w).alloc (Nat.le_refl _) (.cells #[.int .i64 D.f0, .int .i64 D.f1] 53)
  obtain ⟨v', w', h1, h2, h3, _, h5⟩ := app rangeK (w.alloc (.cells #[.int .i64 D.f0, .int .i64 D.f1] 53)) 28 28 53 base i0 _ 16 Try.underlying28 hi hz0 hz1 hz2 rfl (by decide) v L (hown.below hA) (some ⟨w.heap.size, 0, none⟩) 1 [D] (Or.inr ⟨_, rfl, fun j u hu => by
    have e : ([D] : List RangeD).flatMap rangeK.f = rangeC D := by simp [rangeK]
    rw [e] at hu
    rw [add_none, Nat.zero_add]
    have := (Bx.new w (rangeC D) 53).cv j
    exact this.trans hu⟩) (by simp; omega) (by simp; omega)
  exact ⟨v', w', h1, h2, (hA.mono hbase).trans h3, fun q hq hn => (h5.block q (by simp; omega) (fun e => hn q e.symm rfl)).trans (hA.block q hq)⟩

/-- a row of none, and all of a row put behind it -/
theorem lit0Range (w : World) (base : Nat) (hb : base ≤ w.heap.size) : Ro rangeK 53 base (w.alloc (.cells #[] 53)) (.slice (some ⟨w.heap.size, 0, none⟩) 0 0) [] :=
  World.ownsRow_lit (base := base) (e := 53) (size := 2) w #[] 0 hb (by unfold maxLen; omega) rfl
theorem joinRange (w : World) (base : Nat) (v : Value) (L M : List RangeD) (a : Option Addr) (c : Nat) (hown : Ro rangeK 53 base w v L) (h : Rd rangeK w a M) (hb : L.length + M.length ≤ 2097152) (hbase : base ≤ w.heap.size) :
    ∃ v' w', (Builtin.append_ #[28, 28] 28 #[v, .slice a M.length c]).run Try.prog w = .ok v' w' ∧ Ro rangeK 53 base w' v' (L ++ M) ∧ Below base w w' ∧ ∀ q, q < w.heap.size → (∀ g, v.ownBlock = some g → q ≠ g) → w'.heap[q]? = w.heap[q]? := by
  obtain ⟨i0, hi, hz0, hz1, hz2⟩ := info_parts Try.infoRange
  obtain ⟨v', w', h1, h2, h3, _, h5⟩ := app rangeK w 28 28 53 base i0 _ 16 Try.underlying28 hi hz0 hz1 hz2 rfl (by decide) v L hown a c M h.sc hb hbase
  exact ⟨v', w', h1, h2, h3, fun q hq hn => h5.block q hq (fun e => hn q e.symm rfl)⟩

/-- one more is put behind, out of a row of one that lies there -/
theorem pushAtRange (w : World) (base : Nat) (v : Value) (L : List RangeD) (D : RangeD) (g : Nat) (hg : Bx w g (rangeC D)) (hown : Ro rangeK 53 base w v L) (hb : L.length ≤ 1048576) (hbase : base ≤ w.heap.size) :
    ∃ v' w', (Builtin.append_ #[28, 28] 28 #[v, .slice (some ⟨g, 0, none⟩) 1 1]).run Try.prog w = .ok v' w' ∧ Ro rangeK 53 base w' v' (L ++ [D]) ∧ Below base w w' ∧ ∀ q, q < w.heap.size → (∀ g, v.ownBlock = some g → q ≠ g) → w'.heap[q]? = w.heap[q]? := by
  obtain ⟨i0, hi, hz0, hz1, hz2⟩ := info_parts Try.infoRange
  obtain ⟨v', w', h1, h2, h3, _, h5⟩ := app rangeK w 28 28 53 base i0 _ 16 Try.underlying28 hi hz0 hz1 hz2 rfl (by decide) v L hown (some ⟨g, 0, none⟩) 1 [D] (Or.inr ⟨_, rfl, fun j u hu => by
    have e : ([D] : List RangeD).flatMap rangeK.f = rangeC D := by simp [rangeK]
    rw [e] at hu
    rw [add_none, Nat.zero_add]
    exact (hg.cv j).trans hu⟩) (by simp; omega) hbase
  exact ⟨v', w', h1, h2, h3, fun q hq hn => h5.block q hq (fun e => hn q e.symm rfl)⟩

/-- the marks of a row, from k0 on -/
def rangeM (k0 o : Nat) : Value := .int .i64 ((k0 + o : Nat) : Int)
end Go.Proofs.Ytccfbkpelehldaa.Rc
