/-
  Rows of impl.Grow: read, copied by the laws, weighed, held against each other, marked.
-/
import Derived.Test.YtpjpmlopmknllaaRcs
import Derived.Deep.QuietTactic
import Derived.Deep.RegionWith
import Derived.BigQuiet
namespace Go.Proofs.Ytpjpmlopmknllaa.Rc
open Go.ChangeShapes Go.WideShapes Go.ChangeAt Go.RowKit Go.Deep
set_option linter.unusedVariables false
set_option maxRecDepth 100000

/-- a record -/
structure GrowD where
  f0 : Int
  f1 : Int
  f2 : Int
  f3 : Int
/-- its cells -/
abbrev growC (D : GrowD) : List Value := [.int .i64 D.f0, .int .i64 D.f1, .int .i64 D.f2, .int .i64 D.f3]
/-- as a value -/
abbrev growV (D : GrowD) : Value := .agg #[.int .i64 D.f0, .int .i64 D.f1, .int .i64 D.f2, .int .i64 D.f3]
/-- how it lies in cells -/
def growK : Kd GrowD := ⟨fun D => [.int .i64 D.f0, .int .i64 D.f1, .int .i64 D.f2, .int .i64 D.f3], 4, ⟨0, 0, 0, 0⟩, fun _ => rfl, by decide, fun x u hu => by
  simp at hu
  rcases hu with rfl | rfl | rfl | rfl <;> rfl⟩

theorem grow_c0 (L : List GrowD) (k : Nat) : cl growK L (k * 4) = .int .i64 (gt growK L k).f0 := cl_at growK L k 0 (by decide)
theorem grow_c1 (L : List GrowD) (k : Nat) : cl growK L (k * 4 + 1) = .int .i64 (gt growK L k).f1 := cl_at growK L k 1 (by decide)
theorem grow_c2 (L : List GrowD) (k : Nat) : cl growK L (k * 4 + 2) = .int .i64 (gt growK L k).f2 := cl_at growK L k 2 (by decide)
theorem grow_c3 (L : List GrowD) (k : Nat) : cl growK L (k * 4 + 3) = .int .i64 (gt growK L k).f3 := cl_at growK L k 3 (by decide)
theorem grow_r0 {w : World} {b o k : Nat} {L : List GrowD} (h : ∀ q, q < L.length * growK.m → w.cell? ⟨b, o + q, none⟩ = some (cl growK L q)) (hk : k < L.length) : w.cell? ⟨b, o + k * 4, none⟩ = some (.int .i64 (gt growK L k).f0) := by
  have h1 := h (k * 4) (kq_at growK (j := 0) hk (by decide))
  rw [grow_c0] at h1
  exact h1
theorem grow_r1 {w : World} {b o k : Nat} {L : List GrowD} (h : ∀ q, q < L.length * growK.m → w.cell? ⟨b, o + q, none⟩ = some (cl growK L q)) (hk : k < L.length) : w.cell? ⟨b, o + k * 4 + 1, none⟩ = some (.int .i64 (gt growK L k).f1) := by
  have h1 := h (k * 4 + 1) (kq_at growK (j := 1) hk (by decide))
  rw [grow_c1, ← Nat.add_assoc] at h1
  exact h1
theorem grow_r2 {w : World} {b o k : Nat} {L : List GrowD} (h : ∀ q, q < L.length * growK.m → w.cell? ⟨b, o + q, none⟩ = some (cl growK L q)) (hk : k < L.length) : w.cell? ⟨b, o + k * 4 + 2, none⟩ = some (.int .i64 (gt growK L k).f2) := by
  have h1 := h (k * 4 + 2) (kq_at growK (j := 2) hk (by decide))
  rw [grow_c2, ← Nat.add_assoc] at h1
  exact h1
theorem grow_r3 {w : World} {b o k : Nat} {L : List GrowD} (h : ∀ q, q < L.length * growK.m → w.cell? ⟨b, o + q, none⟩ = some (cl growK L q)) (hk : k < L.length) : w.cell? ⟨b, o + k * 4 + 3, none⟩ = some (.int .i64 (gt growK L k).f3) := by
  have h1 := h (k * 4 + 3) (kq_at growK (j := 3) hk (by decide))
  rw [grow_c3, ← Nat.add_assoc] at h1
  exact h1
theorem Try.infoGrow : (Try.prog.info? 67).map (fun i => (i.zero, i.size, i.bytes)) = some (some (.agg #[.int .i64 0, .int .i64 0, .int .i64 0, .int .i64 0]), 4, 32) := by kernel_rfl
/-- one more is put behind -/
theorem pushGrow (w : World) (base : Nat) (v : Value) (L : List GrowD) (D : GrowD) (hown : Ro growK 67 base w v L) (hb : L.length ≤ 1048576) (hbase : base ≤ w.heap.size) :
    ∃ v' w', (Builtin.append_ #[40, 40] 40 #[v, .slice (some ⟨w.heap.size, 0, none⟩) 1 1]).run Try.prog (w.alloc (.cells #[.int .i64 D.f0, .int .i64 D.f1, .int .i64 D.f2, .int .i64 D.f3] 67)) = .ok v' w' ∧ Ro growK 67 base w' v' (L ++ [D]) ∧ Below base w w' ∧ ∀ q, q < w.heap.size → (∀ g, v.ownBlock = some g → q ≠ g) → w'.heap[q]? = w.heap[q]? := by
  obtain ⟨i0, hi, hz0, hz1, hz2⟩ := info_parts Try.infoGrow
  have hA := (Below.refl w.heap.size w).alloc (Nat.le_refl _) (.cells #[.int .i64 D.f0, .int .i64 D.f1, .int .i64 D.f2, .int .i64 D.f3] 67)
  obtain ⟨v', w', h1, h2, h3, _, h5⟩ := app growK (w.alloc (.cells #[.int .i64 D.f0, .int .i64 D.f1, .int .i64 D.f2, .int .i64 D.f3] 67)) 40 40 67 base i0 _ 32 Try.underlying40 hi hz0 hz1 hz2 rfl (by decide) v L (hown.below hA) (some ⟨w.heap.size, 0, none⟩) 1 [D] (Or.inr ⟨_, rfl, fun j u hu => by
    have e : ([D] : List GrowD).flatMap growK.f = growC D := by simp [growK]
    rw [e] at hu
    rw [add_none, Nat.zero_add]
    have := (Bx.new w (growC D) 67).cv j
    exact this.trans hu⟩) (by simp; omega) (by simp; omega)
  exact ⟨v', w', h1, h2, (hA.mono hbase).trans h3, fun q hq hn => (h5.block q (by simp; omega) (fun e => hn q e.symm rfl)).trans (hA.block q hq)⟩

/-- a row of none, and all of a row put behind it -/
theorem lit0Grow (w : World) (base : Nat) (hb : base ≤ w.heap.size) : Ro growK 67 base (w.alloc (.cells #[] 67)) (.slice (some ⟨w.heap.size, 0, none⟩) 0 0) [] :=
  World.ownsRow_lit (base := base) (e := 67) (size := 4) w #[] 0 hb (by unfold maxLen; omega) rfl
theorem joinGrow (w : World) (base : Nat) (v : Value) (L M : List GrowD) (a : Option Addr) (c : Nat) (hown : Ro growK 67 base w v L) (h : Rd growK w a M) (hb : L.length + M.length ≤ 2097152) (hbase : base ≤ w.heap.size) :
    ∃ v' w', (Builtin.append_ #[40, 40] 40 #[v, .slice a M.length c]).run Try.prog w = .ok v' w' ∧ Ro growK 67 base w' v' (L ++ M) ∧ Below base w w' ∧ ∀ q, q < w.heap.size → (∀ g, v.ownBlock = some g → q ≠ g) → w'.heap[q]? = w.heap[q]? := by
  obtain ⟨i0, hi, hz0, hz1, hz2⟩ := info_parts Try.infoGrow
  obtain ⟨v', w', h1, h2, h3, _, h5⟩ := app growK w 40 40 67 base i0 _ 32 Try.underlying40 hi hz0 hz1 hz2 rfl (by decide) v L hown a c M h.sc hb hbase
  exact ⟨v', w', h1, h2, h3, fun q hq hn => h5.block q hq (fun e => hn q e.symm rfl)⟩

/-- one more is put behind, out of a row of one that lies there -/
theorem pushAtGrow (w : World) (base : Nat) (v : Value) (L : List GrowD) (D : GrowD) (g : Nat) (hg : Bx w g (growC D)) (hown : Ro growK 67 base w v L) (hb : L.length ≤ 1048576) (hbase : base ≤ w.heap.size) :
    ∃ v' w', (Builtin.append_ #[40, 40] 40 #[v, .slice (some ⟨g, 0, none⟩) 1 1]).run Try.prog w = .ok v' w' ∧ Ro growK 67 base w' v' (L ++ [D]) ∧ Below base w w' ∧ ∀ q, q < w.heap.size → (∀ g, v.ownBlock = some g → q ≠ g) → w'.heap[q]? = w.heap[q]? := by
  obtain ⟨i0, hi, hz0, hz1, hz2⟩ := info_parts Try.infoGrow
  obtain ⟨v', w', h1, h2, h3, _, h5⟩ := app growK w 40 40 67 base i0 _ 32 Try.underlying40 hi hz0 hz1 hz2 rfl (by decide) v L hown (some ⟨g, 0, none⟩) 1 [D] (Or.inr ⟨_, rfl, fun j u hu => by
    have e : ([D] : List GrowD).flatMap growK.f = growC D := by simp [growK]
    rw [e] at hu
    rw [add_none, Nat.zero_add]
    exact (hg.cv j).trans hu⟩) (by simp; omega) hbase
  exact ⟨v', w', h1, h2, h3, fun q hq hn => h5.block q hq (fun e => hn q e.symm rfl)⟩

/-- the marks of a row, from k0 on -/
def growM (k0 o : Nat) : Value := .int .i64 ((k0 + o : Nat) : Int)
end Go.Proofs.Ytpjpmlopmknllaa.Rc
