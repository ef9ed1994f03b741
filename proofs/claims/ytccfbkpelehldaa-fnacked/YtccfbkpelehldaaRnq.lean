/-
  What is put and joined: it is good, and has just the numbers that it should have.
-/
import Derived.Test.YtccfbkpelehldaaRjp
namespace Go.Proofs.Ytccfbkpelehldaa.Rc
open Go.ChangeShapes Go.WideShapes Go.ChangeAt Go.RowKit Go.Deep
set_option linter.unusedVariables false
set_option maxRecDepth 100000

theorem has_mm (L : List RangeD) (n : Int) : hasB L n = true ↔ Mm L n := by
  unfold hasB Mm
  rw [List.any_eq_true]
  constructor
  · rintro ⟨r, h1, h2⟩
    rw [Bool.and_eq_true, decide_eq_true_eq, decide_eq_true_eq] at h2
    exact ⟨r, h1, h2⟩
  · rintro ⟨r, h1, h2⟩
    exact ⟨r, h1, by rw [Bool.and_eq_true, decide_eq_true_eq, decide_eq_true_eq]; exact h2⟩
theorem can_at : ∀ (L : List RangeD), Can L → ∀ i, i + 1 < L.length → fT L (i + 1) ≤ fF L i - 2
  | [], _, i, hi => absurd hi (Nat.not_lt_zero _)
  | [r], _, i, hi => by simp at hi
  | r :: q :: l, h, 0, _ => by
    have := h.2.1 q List.mem_cons_self
    show q.f1 ≤ r.f0 - 2
    omega
  | r :: q :: l, h, i + 1, hi => by
    have := can_at (q :: l) h.2.2 i (by simpa using hi)
    unfold fT fF at this ⊢
    rw [gt_succ, gt_succ]
    exact this
theorem can_gr {L : List RangeD} (h : Can L) (hb : ∀ r ∈ L, bdR r) (hl : L.length ≤ 20) : grB L = true := by
  unfold grB
  rw [decide_eq_true hl, Bool.true_and]
  refine allR_yes fun i hi => ?_
  have hm := gt_mem rangeK L i hi
  have h1 := can_le h _ hm
  have h2 := hb _ hm
  unfold bdR at h2
  unfold okR
  rw [decide_eq_true_eq]
  refine ⟨h2.1.1, h1, h2.2.2, ?_⟩
  cases i with
  | zero => exact Or.inl rfl
  | succ j => exact Or.inr (can_at L h j hi)
theorem can_take : ∀ (L : List RangeD) (n : Nat), Can L → Can (L.take n)
  | _, 0, _ => trivial
  | [], n + 1, _ => trivial
  | r :: l, n + 1, h => ⟨h.1, fun q hq => h.2.1 q (List.mem_of_mem_take hq), can_take l n h.2.2⟩
theorem kn_le {n : Int} (h : knB n = true) : 0 ≤ n ∧ n ≤ 4611686018427387903 := by unfold knB at h; simpa using h
/-- what is put is good -/
theorem pn_good {L : List RangeD} {n : Int} (h : pnB L n = true) : grB (pnL L n (pnB L n)) = true := by
  rw [h]
  unfold pnB at h
  rw [Bool.and_eq_true] at h
  have hn := kn_le h.2
  refine can_gr (can_take _ 20 (can_put L ⟨n, n⟩ (gr_can h.1) (Int.le_refl _)).1) (fun r hr => bd_put L ⟨n, n⟩ false (gr_mem h.1) ⟨hn, hn⟩ r (List.mem_of_mem_take hr)) (pnL_len L n true)
/-- where there is room it has the number and those that were -/
theorem pn_has {L : List RangeD} {n : Int} (h : pnB L n = true) (hl : L.length < 20) (k : Int) : hnB (pnL L n (pnB L n)) k = (hnB L k || decide (k = n)) := by
  have hg := pn_good h
  unfold hnB
  rw [hg]
  rw [h]
  unfold pnB at h
  rw [Bool.and_eq_true] at h
  rw [h.1, Bool.true_and, Bool.true_and]
  have he : pnL L n true = putG L ⟨n, n⟩ false := List.take_of_length_le (by have := putG_len L ⟨n, n⟩ false; omega)
  rw [he, Bool.eq_iff_iff, has_mm, (can_put L ⟨n, n⟩ (gr_can h.1) (Int.le_refl _)).2 k, Bool.or_eq_true, has_mm, decide_eq_true_eq]
  constructor
  · rintro (h | h)
    · exact Or.inl h
    · exact Or.inr (by simp only at h; omega)
  · rintro (h | h)
    · exact Or.inl h
    · exact Or.inr (by simp only; omega)
theorem jn_parts {A B : List RangeD} (h : jnB A B = true) : grB A = true ∧ grB B = true ∧ (jnG A B).length ≤ 20 := by
  unfold jnB at h
  rw [Bool.and_eq_true, Bool.and_eq_true, decide_eq_true_eq] at h
  exact h
/-- what is joined is good -/
theorem jn_good {A B : List RangeD} (h : jnB A B = true) : grB (jnL A B (jnB A B)) = true := by
  obtain ⟨h1, h2, h3⟩ := jn_parts h
  rw [h]
  exact can_gr (can_jn B A (gr_can h1) (can_le (gr_can h2))).1 (jnG_bd B A (gr_mem h1) (gr_mem h2)) h3
/-- it has the numbers of both -/
theorem jn_has {A B : List RangeD} (h : jnB A B = true) (k : Int) : hnB (jnL A B (jnB A B)) k = (hnB A k || hnB B k) := by
  have hg := jn_good h
  obtain ⟨h1, h2, h3⟩ := jn_parts h
  unfold hnB
  rw [hg, h, h1, h2, Bool.true_and, Bool.true_and, Bool.true_and, Bool.eq_iff_iff, has_mm, Bool.or_eq_true, has_mm, has_mm]
  exact (can_jn B A (gr_can h1) (can_le (gr_can h2))).2 k
theorem bd_ok {r : RangeD} (h : bdR r) : okRange r := by unfold bdR at h; unfold okRange okI; omega
theorem mem_rgO {L : List RangeD} (h : ∀ r ∈ L, bdR r) : rgO L := fun i hi => bd_ok (h _ (gt_mem rangeK L i hi))
theorem pn_bd {L : List RangeD} {n : Int} : ∀ r ∈ pnL L n (pnB L n), bdR r := by
  cases h : pnB L n with
  | false => intro r hr; cases hr
  | true =>
    unfold pnB at h
    rw [Bool.and_eq_true] at h
    have hn := kn_le h.2
    exact fun r hr => bd_put L ⟨n, n⟩ false (gr_mem h.1) ⟨hn, hn⟩ r (List.mem_of_mem_take hr)
theorem jn_bd {A B : List RangeD} : ∀ r ∈ jnL A B (jnB A B), bdR r := by
  cases h : jnB A B with
  | false => intro r hr; cases hr
  | true =>
    obtain ⟨h1, h2, h3⟩ := jn_parts h
    exact jnG_bd B A (gr_mem h1) (gr_mem h2)
end Go.Proofs.Ytccfbkpelehldaa.Rc
