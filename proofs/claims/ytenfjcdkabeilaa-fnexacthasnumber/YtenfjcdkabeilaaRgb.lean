/-
  Contracts: a range put into ranges, as the model does it.
-/
import Derived.Test.YtenfjcdkabeilaaRga
import Derived.Deep.DeepCutAuto
namespace Go.Proofs.Ytenfjcdkabeilaa.Rc
open Go.ChangeShapes Go.WideShapes Go.ChangeAt Go.RowKit Go.Deep
set_option linter.unusedVariables false
set_option maxRecDepth 100000

/-- a range with another one that it touches -/
def mrg (r x : RangeD) : RangeD := ⟨if r.f0 < x.f0 then r.f0 else x.f0, if x.f1 < r.f1 then r.f1 else x.f1⟩
/-- a range put into ranges, with all that it touches -/
def putG : List RangeD → RangeD → Bool → List RangeD
  | [], x, p => cond p [] [x]
  | r :: l, x, p => if x.f1 + 1 < r.f0 then r :: putG l x p else if r.f1 < x.f0 - 1 then cond p (r :: putG l x true) (x :: r :: putG l x true) else putG l (mrg r x) p
/-- its ends are numbers as they are told -/
def bdR (r : RangeD) : Prop := (0 ≤ r.f0 ∧ r.f0 ≤ 4611686018427387903) ∧ (0 ≤ r.f1 ∧ r.f1 ≤ 4611686018427387903)
theorem bd_mrg {r x : RangeD} (h1 : bdR r) (h2 : bdR x) : bdR (mrg r x) := by
  unfold bdR mrg at *
  simp only
  refine ⟨?_, ?_⟩
  · split <;> omega
  · split <;> omega
theorem gr_bd {L : List RangeD} (h : grB L = true) : ∀ i, i < L.length → bdR (gt rangeK L i) := by
  intro i hi
  unfold grB at h
  rw [Bool.and_eq_true] at h
  have h2 := h.2
  unfold allR at h2
  rw [List.all_eq_true] at h2
  have h3 := h2 i (List.mem_range.2 hi)
  unfold okR at h3
  rw [decide_eq_true_eq] at h3
  unfold fF fT at h3
  exact ⟨⟨by omega, by omega⟩, by omega, by omega⟩
theorem put_ahead {L : List RangeD} {k : Nat} (h : k < L.length) {x : RangeD} {p : Bool} (h1 : x.f1 + 1 < (gt rangeK L k).f0) : putG (L.drop k) x p = gt rangeK L k :: putG (L.drop (k + 1)) x p := by
  rw [drop_gt rangeK L k h, putG, if_pos h1]
theorem put_behind {L : List RangeD} {k : Nat} (h : k < L.length) {x : RangeD} (h1 : ¬ x.f1 + 1 < (gt rangeK L k).f0) (h2 : (gt rangeK L k).f1 < x.f0 - 1) : putG (L.drop k) x true = gt rangeK L k :: putG (L.drop (k + 1)) x true := by
  rw [drop_gt rangeK L k h, putG, if_neg h1, if_pos h2]
  rfl
theorem put_here {L : List RangeD} {k : Nat} (h : k < L.length) {x : RangeD} (h1 : ¬ x.f1 + 1 < (gt rangeK L k).f0) (h2 : (gt rangeK L k).f1 < x.f0 - 1) : putG (L.drop k) x false = x :: gt rangeK L k :: putG (L.drop (k + 1)) x true := by
  rw [drop_gt rangeK L k h, putG, if_neg h1, if_pos h2]
  rfl
theorem put_mrg {L : List RangeD} {k : Nat} (h : k < L.length) {x : RangeD} {p : Bool} (h1 : ¬ x.f1 + 1 < (gt rangeK L k).f0) (h2 : ¬ (gt rangeK L k).f1 < x.f0 - 1) : putG (L.drop k) x p = putG (L.drop (k + 1)) (mrg (gt rangeK L k) x) p := by
  rw [drop_gt rangeK L k h, putG, if_neg h1, if_neg h2]
theorem putG_true : ∀ (L : List RangeD) (x : RangeD), (putG L x true).length ≤ L.length
  | [], x => Nat.le_refl _
  | r :: l, x => by
    rw [putG]
    split
    · have := putG_true l x; simp; omega
    · split
      · have := putG_true l x; simp; omega
      · have := putG_true l (mrg r x); simp; omega
theorem putG_len : ∀ (L : List RangeD) (x : RangeD) (p : Bool), (putG L x p).length ≤ L.length + 1
  | [], x, p => by cases p <;> simp [putG]
  | r :: l, x, p => by
    rw [putG]
    split
    · have := putG_len l x p; simp; omega
    · split
      · have := putG_true l x
        cases p <;> (simp; omega)
      · have := putG_len l (mrg r x) p; simp; omega
theorem ro_box {base : Nat} {w : World} {v : Value} {O : List RangeD} {i : Nat} {u : Value} {g : Nat} (h : Ro rangeK 33 base w v O) (hg : g < base) : Ro rangeK 33 base (w.setCell ⟨g, i, none⟩ u) v O :=
  h.kq ((Kq.refl (fun q => q = g) w).set rfl) (fun q hq => by omega)
end Go.Proofs.Ytenfjcdkabeilaa.Rc
