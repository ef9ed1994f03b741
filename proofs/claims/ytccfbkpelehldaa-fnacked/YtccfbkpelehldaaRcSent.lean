/-
  Rows of impl.Sent: read, copied by the laws, weighed, held against each other, marked.
-/
import Derived.Test.YtccfbkpelehldaaRcs
import Derived.Deep.QuietTactic
import Derived.Deep.RegionWith
import Derived.BigQuiet
namespace Go.Proofs.Ytccfbkpelehldaa.Rc
open Go.ChangeShapes Go.WideShapes Go.ChangeAt Go.RowKit Go.Deep
set_option linter.unusedVariables false
set_option maxRecDepth 100000

/-- a record -/
structure SentD where
  f0 : Int
  f1 : Int
  f2 : Int
/-- its cells -/
abbrev sentC (D : SentD) : List Value := [.int .i64 D.f0, .int .i64 D.f1, .int .i64 D.f2]
/-- as a value -/
abbrev sentV (D : SentD) : Value := .agg #[.int .i64 D.f0, .int .i64 D.f1, .int .i64 D.f2]
/-- how it lies in cells -/
def sentK : Kd SentD := ⟨fun D => [.int .i64 D.f0, .int .i64 D.f1, .int .i64 D.f2], 3, ⟨0, 0, 0⟩, fun _ => rfl, by decide, fun x u hu => by
  simp at hu
  rcases hu with rfl | rfl | rfl <;> rfl⟩

theorem sent_c0 (L : List SentD) (k : Nat) : cl sentK L (k * 3) = .int .i64 (gt sentK L k).f0 := cl_at sentK L k 0 (by decide)
theorem sent_c1 (L : List SentD) (k : Nat) : cl sentK L (k * 3 + 1) = .int .i64 (gt sentK L k).f1 := cl_at sentK L k 1 (by decide)
theorem sent_c2 (L : List SentD) (k : Nat) : cl sentK L (k * 3 + 2) = .int .i64 (gt sentK L k).f2 := cl_at sentK L k 2 (by decide)
theorem sent_r0 {w : World} {b o k : Nat} {L : List SentD} (h : ∀ q, q < L.length * sentK.m → w.cell? ⟨b, o + q, none⟩ = some (cl sentK L q)) (hk : k < L.length) : w.cell? ⟨b, o + k * 3, none⟩ = some (.int .i64 (gt sentK L k).f0) := by
  have h1 := h (k * 3) (kq_at sentK (j := 0) hk (by decide))
  rw [sent_c0] at h1
  exact h1
theorem sent_r1 {w : World} {b o k : Nat} {L : List SentD} (h : ∀ q, q < L.length * sentK.m → w.cell? ⟨b, o + q, none⟩ = some (cl sentK L q)) (hk : k < L.length) : w.cell? ⟨b, o + k * 3 + 1, none⟩ = some (.int .i64 (gt sentK L k).f1) := by
  have h1 := h (k * 3 + 1) (kq_at sentK (j := 1) hk (by decide))
  rw [sent_c1, ← Nat.add_assoc] at h1
  exact h1
theorem sent_r2 {w : World} {b o k : Nat} {L : List SentD} (h : ∀ q, q < L.length * sentK.m → w.cell? ⟨b, o + q, none⟩ = some (cl sentK L q)) (hk : k < L.length) : w.cell? ⟨b, o + k * 3 + 2, none⟩ = some (.int .i64 (gt sentK L k).f2) := by
  have h1 := h (k * 3 + 2) (kq_at sentK (j := 2) hk (by decide))
  rw [sent_c2, ← Nat.add_assoc] at h1
  exact h1
theorem Try.infoSent : (Try.prog.info? 37).map (fun i => (i.zero, i.size, i.bytes)) = some (some (.agg #[.int .i64 0, .int .i64 0, .int .i64 0]), 3, 24) := by kernel_rfl
/-- one more is put behind -/
theorem pushSent (w : World) (base : Nat) (v : Value) (L : List SentD) (D : SentD) (hown : Ro sentK 37 base w v L) (hb : L.length ≤ 1048576) (hbase : base ≤ w.heap.size) :
    ∃ v' w', (Builtin.append_ #[23, 23] 23 #[v, .slice (some ⟨w.heap.size, 0, none⟩) 1 1]).run Try.prog (w.alloc (.cells #[.int .i64 D.f0, .int .i64 D.f1, .int .i64 D.f2] 37)) = .ok v' w' ∧ Ro sentK 37 base w' v' (L ++ [D]) ∧ Below base w w' ∧ ∀ q, q < w.heap.size → (∀ g, v.ownBlock = some g → q ≠ g) → w'.heap[q]? = w.heap[q]? := by
  obtain ⟨i0, hi, hz0, hz1, hz2⟩ := info_parts Try.infoSent
  have hA := (Below.refl w.heap.size w).alloc (Nat.le_refl _) (.cells #[.int .i64 D.f0, .int .i64 D.f1, .int .i64 D.f2] 37)
  obtain ⟨v', w', h1, h2, h3, _, h5⟩ := app sentK (w.alloc (.cells #[.int .i64 D.f0, .int .i64 D.f1, .int .i64 D.f2] 37)) 23 23 37 base i0 _ 24 Try.underlying23 hi hz0 hz1 hz2 rfl (by decide) v L (hown.below hA) (some ⟨w.heap.size, 0, none⟩) 1 [D] (Or.inr ⟨_, rfl, fun j u hu => by
    have e : ([D] : List SentD).flatMap sentK.f = sentC D := by simp [sentK]
    rw [e] at hu
    rw [add_none, Nat.zero_add]
    have := (Bx.new w (sentC D) 37).cv j
    exact this.trans hu⟩) (by simp; omega) (by simp; omega)
  exact ⟨v', w', h1, h2, (hA.mono hbase).trans h3, fun q hq hn => (h5.block q (by simp; omega) (fun e => hn q e.symm rfl)).trans (hA.block q hq)⟩

/-- a row of none, and all of a row put behind it -/
theorem lit0Sent (w : World) (base : Nat) (hb : base ≤ w.heap.size) : Ro sentK 37 base (w.alloc (.cells #[] 37)) (.slice (some ⟨w.heap.size, 0, none⟩) 0 0) [] :=
  World.ownsRow_lit (base := base) (e := 37) (size := 3) w #[] 0 hb (by unfold maxLen; omega) rfl
theorem joinSent (w : World) (base : Nat) (v : Value) (L M : List SentD) (a : Option Addr) (c : Nat) (hown : Ro sentK 37 base w v L) (h : Rd sentK w a M) (hb : L.length + M.length ≤ 2097152) (hbase : base ≤ w.heap.size) :
    ∃ v' w', (Builtin.append_ #[23, 23] 23 #[v, .slice a M.length c]).run Try.prog w = .ok v' w' ∧ Ro sentK 37 base w' v' (L ++ M) ∧ Below base w w' ∧ ∀ q, q < w.heap.size → (∀ g, v.ownBlock = some g → q ≠ g) → w'.heap[q]? = w.heap[q]? := by
  obtain ⟨i0, hi, hz0, hz1, hz2⟩ := info_parts Try.infoSent
  obtain ⟨v', w', h1, h2, h3, _, h5⟩ := app sentK w 23 23 37 base i0 _ 24 Try.underlying23 hi hz0 hz1 hz2 rfl (by decide) v L hown a c M h.sc hb hbase
  exact ⟨v', w', h1, h2, h3, fun q hq hn => h5.block q hq (fun e => hn q e.symm rfl)⟩

/-- one more is put behind, out of a row of one that lies there -/
theorem pushAtSent (w : World) (base : Nat) (v : Value) (L : List SentD) (D : SentD) (g : Nat) (hg : Bx w g (sentC D)) (hown : Ro sentK 37 base w v L) (hb : L.length ≤ 1048576) (hbase : base ≤ w.heap.size) :
    ∃ v' w', (Builtin.append_ #[23, 23] 23 #[v, .slice (some ⟨g, 0, none⟩) 1 1]).run Try.prog w = .ok v' w' ∧ Ro sentK 37 base w' v' (L ++ [D]) ∧ Below base w w' ∧ ∀ q, q < w.heap.size → (∀ g, v.ownBlock = some g → q ≠ g) → w'.heap[q]? = w.heap[q]? := by
  obtain ⟨i0, hi, hz0, hz1, hz2⟩ := info_parts Try.infoSent
  obtain ⟨v', w', h1, h2, h3, _, h5⟩ := app sentK w 23 23 37 base i0 _ 24 Try.underlying23 hi hz0 hz1 hz2 rfl (by decide) v L hown (some ⟨g, 0, none⟩) 1 [D] (Or.inr ⟨_, rfl, fun j u hu => by
    have e : ([D] : List SentD).flatMap sentK.f = sentC D := by simp [sentK]
    rw [e] at hu
    rw [add_none, Nat.zero_add]
    exact (hg.cv j).trans hu⟩) (by simp; omega) hbase
  exact ⟨v', w', h1, h2, h3, fun q hq hn => h5.block q hq (fun e => hn q e.symm rfl)⟩

/-- the marks of a row, from k0 on -/
def sentM (k0 o : Nat) : Value := .int .i64 ((k0 + o : Nat) : Int)
end Go.Proofs.Ytccfbkpelehldaa.Rc
