/-
  What an acknowledgement leaves: it is good, each packet is in just one of three lists, and the same once more changes nothing.
-/
import Derived.Test.YtccfbkpelehldaaTap
namespace Go.Proofs.Ytccfbkpelehldaa.Rc
open Go.ChangeShapes Go.WideShapes Go.ChangeAt Go.RowKit Go.Deep
set_option linter.unusedVariables false
set_option maxRecDepth 100000

/-- one packet behind another -/
def Bh (x y : SentD) : Prop := x.f0 < y.f0 ∧ x.f1 ≤ y.f1
theorem up_at {S : List SentD} (h : allS S = true) : ∀ (d i : Nat), i + (d + 1) < S.length → Bh (gt sentK S i) (gt sentK S (i + (d + 1)))
  | 0, i, hi => by
    have h2 := allS_at h (i := i + 1) hi
    unfold orB at h2
    simp only [Bool.and_eq_true, decide_eq_true_eq] at h2
    rcases h2.2 with h0 | h0
    · omega
    · exact h0
  | d + 1, i, hi => by
    have h1 := up_at h d i (by omega)
    have h2 := allS_at h (i := i + (d + 1) + 1) (by omega)
    unfold orB at h2
    simp only [Bool.and_eq_true, decide_eq_true_eq] at h2
    rcases h2.2 with h0 | h0
    · omega
    · have e : i + (d + 1) + 1 - 1 = i + (d + 1) := by omega
      rw [e] at h0
      exact ⟨Int.lt_trans h1.1 h0.1, Int.le_trans h1.2 h0.2⟩
theorem all_pw {S : List SentD} (h : allS S = true) : (∀ x ∈ S, osB x = true) ∧ S.Pairwise Bh := by
  refine ⟨fun x hx => ?_, ?_⟩
  · obtain ⟨i, hi, rfl⟩ := mem_gt hx
    exact os_at h hi
  · rw [List.pairwise_iff_getElem]
    intro i j hi hj hij
    have h1 := up_at h (j - i - 1) i (by omega)
    rw [show i + (j - i - 1 + 1) = j by omega, gt_of sentK S i hi, gt_of sentK S j hj] at h1
    exact h1
theorem pw_all {S : List SentD} (h1 : ∀ x ∈ S, osB x = true) (h2 : S.Pairwise Bh) : allS S = true := by
  refine allS_yes fun j hj => ?_
  unfold orB
  rw [h1 _ (gt_mem sentK S j hj), Bool.true_and, decide_eq_true_eq]
  cases j with
  | zero => exact Or.inl rfl
  | succ k =>
    right
    rw [List.pairwise_iff_getElem] at h2
    have := h2 k (k + 1) (by omega) hj (by omega)
    rw [show k + 1 - 1 = k by omega, gt_of sentK S k (by omega), gt_of sentK S (k + 1) hj]
    exact this
theorem all_fil {S : List SentD} (h : allS S = true) (p : SentD → Bool) : allS (S.filter p) = true := by
  obtain ⟨h1, h2⟩ := all_pw h
  exact pw_all (fun x hx => h1 x (List.mem_filter.1 hx).1) (h2.filter p)
/-- how often a number is in a list -/
def ctI (n : Int) (A : List Int) : Nat := A.countP fun m => decide (m = n)
def ctS (x : SentD) (S : List SentD) : Nat := S.countP fun y => decide (y.f0 = x.f0 ∧ y.f1 = x.f1 ∧ y.f2 = x.f2)
theorem ct_none : ∀ {S : List SentD} {n : Int}, (∀ y ∈ S, y.f0 ≠ n) → S.countP (fun y => decide (y.f0 = n)) = 0
  | [], n, _ => rfl
  | x :: S, n, h => by
    rw [List.countP_cons_of_neg (by simpa using h x List.mem_cons_self), ct_none (fun y hy => h y (List.mem_cons_of_mem _ hy))]
theorem ct_one : ∀ {S : List SentD}, S.Pairwise Bh → ∀ {x : SentD}, x ∈ S → ∀ (p : SentD → Bool), (S.filter p).countP (fun y => decide (y.f0 = x.f0)) = if p x = true then 1 else 0
  | [], _, x, hx, p => by cases hx
  | z :: S, h, x, hx, p => by
    rw [List.pairwise_cons] at h
    rcases List.mem_cons.1 hx with rfl | hx
    · have h0 : (S.filter p).countP (fun y => decide (y.f0 = x.f0)) = 0 := ct_none (fun y hy => by have := (h.1 y (List.mem_filter.1 hy).1).1; omega)
      by_cases hp : p x = true
      · rw [List.filter_cons_of_pos hp, List.countP_cons_of_pos (by simp), h0, if_pos hp]
      · rw [List.filter_cons_of_neg hp, h0, if_neg hp]
    · have hne : ¬ z.f0 = x.f0 := by have := (h.1 x hx).1; omega
      have ih := ct_one h.2 hx p
      by_cases hp : p z = true
      · rw [List.filter_cons_of_pos hp, List.countP_cons_of_neg (by simpa using hne), ih]
      · rw [List.filter_cons_of_neg hp, ih]
theorem ctI_map (n : Int) (S : List SentD) : ctI n (S.map fun x => x.f0) = S.countP fun y => decide (y.f0 = n) := by
  unfold ctI
  rw [List.countP_map]
  rfl
theorem ctS_eq {S : List SentD} (h : S.Pairwise Bh) {x : SentD} (hx : x ∈ S) (p : SentD → Bool) : ctS x (S.filter p) = (S.filter p).countP fun y => decide (y.f0 = x.f0) := by
  unfold ctS
  refine List.countP_congr fun y hy => ?_
  have hy := (List.mem_filter.1 hy).1
  rw [decide_eq_true_eq, decide_eq_true_eq]
  constructor
  · exact fun h => h.1
  · intro e
    have : y = x := by
      obtain ⟨i, hi, rfl⟩ := List.getElem_of_mem hy
      obtain ⟨j, hj, rfl⟩ := List.getElem_of_mem hx
      rw [List.pairwise_iff_getElem] at h
      rcases Nat.lt_trichotomy i j with c | c | c
      · have := (h i j hi hj c).1; omega
      · subst c; rfl
      · have := (h j i hj hi c).1; omega
    rw [this]
    exact ⟨rfl, rfl, rfl⟩
theorem len_parts (S : List SentD) (p : SentD → Bool) : (S.filter p).length + (S.filter fun x => !p x).length = S.length := by
  induction S with
  | nil => rfl
  | cons x S ih =>
    by_cases h : p x = true
    · rw [List.filter_cons_of_pos h, List.filter_cons_of_neg (by simp [h]), List.length_cons, List.length_cons]; omega
    · have h' : p x = false := by simpa using h
      rw [List.filter_cons_of_neg h, List.filter_cons_of_pos (by simp [h']), List.length_cons, List.length_cons]; omega
section
variable {D : SpaceD} {L : List RangeD} {now de : Int} (h : taB D L now de = true)
include h
theorem ta_S : (taD D L now de (taB D L now de)).S = D.S.filter fun x => !hasB L x.f0 && !loB (taG D L) now (taR D L now de) x := by
  rw [h]
  show (lfS L D.S).filter _ = _
  unfold lfS
  rw [List.filter_filter]
  congr 1
  funext x
  exact Bool.and_comm _ _
theorem ta_L : taL D L now de (taB D L now de) = (D.S.filter fun x => !hasB L x.f0 && loB (taG D L) now (taR D L now de) x).map fun x => x.f0 := by
  rw [h]
  show ((lfS L D.S).filter _).map _ = _
  unfold lfS
  rw [List.filter_filter]
  congr 2
  funext x
  exact Bool.and_comm _ _
theorem ta_A : taA D L (taB D L now de) = (D.S.filter fun x => hasB L x.f0).map fun x => x.f0 := by
  rw [h]
  rfl
theorem ta_lg : (taD D L now de (taB D L now de)).lg = taG D L := by rw [h]; rfl
theorem ta_r : (taD D L now de (taB D L now de)).r = taR D L now de := by rw [h]; rfl
theorem ta_rt : rtB (taR D L now de) = true := by
  obtain ⟨h1, h2, h3, h4, h5, h6⟩ := ta_parts h
  exact rt_fold h6 _ _ (fun x hx => tick_in h1 h4 h5 (ak_mem hx)) (gs_parts h1).2.2.2.2
theorem ta_top : 0 ≤ fT L 0 ∧ fT L 0 ≤ 4611686018427387903 := by
  obtain ⟨h1, h2, h3, h4, h5, h6⟩ := ta_parts h
  have := gr_bd h2 0 (by omega)
  unfold bdR at this
  exact this.2
theorem ta_good : gsB (taD D L now de (taB D L now de)) = true := by
  obtain ⟨h1, h2, h3, h4, h5, h6⟩ := ta_parts h
  obtain ⟨g1, g2, g3, g4, g5⟩ := gs_parts h1
  have t := ta_top h
  have e1 := ta_S h
  have e2 := ta_lg h
  have e3 := ta_r h
  have e4 := ta_rt h
  have e5 := List.length_filter_le (fun x => !hasB L x.f0 && !loB (taG D L) now (taR D L now de) x) D.S
  have e6 : -1 ≤ taG D L ∧ taG D L ≤ 4611686018427387903 := by unfold taG mxI; split <;> omega
  unfold gsB
  rw [e1, e2, e3, e4, all_fil g1, decide_eq_true e6.1, decide_eq_true e6.2, decide_eq_true (show (D.S.filter fun x => !hasB L x.f0 && !loB (taG D L) now (taR D L now de) x).length ≤ 60 by omega)]
  rfl
theorem ta_len : (taA D L (taB D L now de)).length + (taL D L now de (taB D L now de)).length + (taD D L now de (taB D L now de)).S.length = D.S.length := by
  rw [h]
  show ((akS L D.S).map _).length + (((lfS L D.S).filter _).map _).length + ((lfS L D.S).filter _).length = _
  rw [List.length_map, List.length_map]
  have e1 := len_parts D.S fun x => hasB L x.f0
  have e2 := len_parts (lfS L D.S) fun x => loB (taG D L) now (taR D L now de) x
  unfold akS
  unfold lfS at e2 ⊢
  omega
theorem ta_many {x : SentD} (hx : x ∈ D.S) : ctI x.f0 (taA D L (taB D L now de)) + ctI x.f0 (taL D L now de (taB D L now de)) + ctS x (taD D L now de (taB D L now de)).S = 1 := by
  obtain ⟨h1, _⟩ := ta_parts h
  have hp := (all_pw (gs_parts h1).1).2
  rw [ta_A h, ta_L h, ta_S h, ctI_map, ctI_map, ctS_eq hp hx, ct_one hp hx, ct_one hp hx, ct_one hp hx]
  cases hasB L x.f0 <;> cases loB (taG D L) now (taR D L now de) x <;> rfl
theorem ta_has {n : Int} (hn : n ∈ taA D L (taB D L now de)) : hnB L n = true := by
  obtain ⟨_, h2, _⟩ := ta_parts h
  rw [ta_A h] at hn
  obtain ⟨x, hx, rfl⟩ := List.mem_map.1 hn
  unfold hnB
  rw [h2, (List.mem_filter.1 hx).2]
  rfl
theorem ta_low {n : Int} (hn : n ∈ taL D L now de (taB D L now de)) : n < (taD D L now de (taB D L now de)).lg := by
  rw [ta_L h] at hn
  rw [ta_lg h]
  obtain ⟨x, hx, rfl⟩ := List.mem_map.1 hn
  have := (List.mem_filter.1 hx).2
  rw [Bool.and_eq_true] at this
  have := this.2
  unfold loB at this
  rw [Bool.and_eq_true, decide_eq_true_eq] at this
  exact this.1
theorem ta_ak : akS L (taD D L now de (taB D L now de)).S = [] := by
  rw [ta_S h]
  unfold akS
  rw [List.filter_filter, List.filter_eq_nil_iff]
  intro x hx
  cases hasB L x.f0 <;> simp
theorem ta_again : taB (taD D L now de (taB D L now de)) L now de = true := by
  obtain ⟨h1, h2, h3, h4, h5, h6⟩ := ta_parts h
  have hl : (laS (taD D L now de (taB D L now de)).S).f1 ≤ now := by
    unfold laS
    split
    · exact (tkB_yes h4).1
    · rename_i hne
      have hm := gt_mem sentK (taD D L now de (taB D L now de)).S ((taD D L now de (taB D L now de)).S.length - 1) (by omega)
      have hm2 : gt sentK (taD D L now de (taB D L now de)).S ((taD D L now de (taB D L now de)).S.length - 1) ∈ D.S := by
        have e := ta_S h
        generalize gt sentK (taD D L now de (taB D L now de)).S ((taD D L now de (taB D L now de)).S.length - 1) = z at *
        rw [e] at hm
        exact (List.mem_filter.1 hm).1
      have := (time_in (gs_parts h1).1 hm2).2.1
      omega
  have hg := ta_good h
  generalize taD D L now de (taB D L now de) = E at *
  unfold taB
  rw [hg, h2, h4, h6, decide_eq_true h3, decide_eq_true hl]
  rfl
theorem ta_again_A : taA (taD D L now de (taB D L now de)) L true = [] := by
  show (akS L (taD D L now de (taB D L now de)).S).map _ = []
  rw [ta_ak h]
  rfl
theorem ta_again_G : taG (taD D L now de (taB D L now de)) L = taG D L := by
  unfold taG
  rw [ta_lg h]
  unfold taG
  generalize D.lg = x
  generalize fT L 0 = y
  show mxI (mxI x y) y = mxI x y
  unfold mxI
  by_cases hxy : x < y
  · rw [if_pos hxy, if_neg (Int.lt_irrefl _)]
  · rw [if_neg hxy, if_neg hxy]
theorem ta_again_R : taR (taD D L now de (taB D L now de)) L now de = taR D L now de := by
  unfold taR
  rw [ta_ak h, ta_r h]
  rfl
theorem ta_again_L : taL (taD D L now de (taB D L now de)) L now de true = [] := by
  show ((lfS L (taD D L now de (taB D L now de)).S).filter fun x => loB (taG (taD D L now de (taB D L now de)) L) now (taR (taD D L now de (taB D L now de)) L now de) x).map _ = []
  rw [ta_again_G h, ta_again_R h, ta_S h, List.map_eq_nil_iff]
  unfold lfS
  rw [List.filter_filter, List.filter_filter, List.filter_eq_nil_iff]
  intro x hx
  cases loB (taG D L) now (taR D L now de) x <;> simp
theorem ta_again_S : (taD (taD D L now de (taB D L now de)) L now de true).S.length = (taD D L now de (taB D L now de)).S.length := by
  have e1 := ta_len (ta_again h)
  rw [ta_again h, ta_again_A h, ta_again_L h] at e1
  simpa using e1
end
end Go.Proofs.Ytccfbkpelehldaa.Rc
