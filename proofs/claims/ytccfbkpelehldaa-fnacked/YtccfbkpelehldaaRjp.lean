/-
  Ranges joined: falling ranges none of which touch are told by their numbers; what stands between two rounds of a join.
-/
import Derived.Test.YtccfbkpelehldaaRgj
namespace Go.Proofs.Ytccfbkpelehldaa.Rc
open Go.ChangeShapes Go.WideShapes Go.ChangeAt Go.RowKit Go.Deep
set_option linter.unusedVariables false
set_option maxRecDepth 100000

/-- falling ranges none of which touch -/
def Can : List RangeD → Prop
  | [] => True
  | r :: l => r.f0 ≤ r.f1 ∧ (∀ q ∈ l, q.f1 + 1 < r.f0) ∧ Can l
/-- a number is in one -/
def Mm (L : List RangeD) (n : Int) : Prop := ∃ r ∈ L, r.f0 ≤ n ∧ n ≤ r.f1
theorem mm_nil (n : Int) : ¬ Mm [] n := fun ⟨_, h, _⟩ => by cases h
theorem mm_cons (r : RangeD) (l : List RangeD) (n : Int) : Mm (r :: l) n ↔ (r.f0 ≤ n ∧ n ≤ r.f1) ∨ Mm l n := by
  constructor
  · rintro ⟨q, hq, h⟩
    rcases List.mem_cons.1 hq with rfl | hq
    · exact Or.inl h
    · exact Or.inr ⟨q, hq, h⟩
  · rintro (h | ⟨q, hq, h⟩)
    · exact ⟨r, List.mem_cons_self, h⟩
    · exact ⟨q, List.mem_cons_of_mem _ hq, h⟩
theorem mm_app (L K : List RangeD) (n : Int) : Mm (L ++ K) n ↔ Mm L n ∨ Mm K n := by
  constructor
  · rintro ⟨q, hq, h⟩
    rcases List.mem_append.1 hq with hq | hq
    · exact Or.inl ⟨q, hq, h⟩
    · exact Or.inr ⟨q, hq, h⟩
  · rintro (⟨q, hq, h⟩ | ⟨q, hq, h⟩)
    · exact ⟨q, List.mem_append_left _ hq, h⟩
    · exact ⟨q, List.mem_append_right _ hq, h⟩
theorem can_le : ∀ {L : List RangeD}, Can L → ∀ q ∈ L, q.f0 ≤ q.f1
  | [], _, q, hq => by cases hq
  | r :: l, h, q, hq => by
    rcases List.mem_cons.1 hq with rfl | hq
    · exact h.1
    · exact can_le h.2.2 q hq
theorem can_top {r : RangeD} {l : List RangeD} (h : Can (r :: l)) {n : Int} (hn : Mm (r :: l) n) : n ≤ r.f1 := by
  have h0 := h.1
  obtain ⟨q, hq, h1⟩ := hn
  rcases List.mem_cons.1 hq with rfl | hq
  · exact h1.2
  · have := h.2.1 q hq; omega
theorem can_uniq : ∀ {L K : List RangeD}, Can L → Can K → (∀ n, Mm L n ↔ Mm K n) → L = K
  | [], [], _, _, _ => rfl
  | [], k :: m, _, hK, h => absurd ((h k.f1).2 ((mm_cons k m _).2 (Or.inl ⟨hK.1, Int.le_refl _⟩))) (mm_nil _)
  | r :: l, [], hL, _, h => absurd ((h r.f1).1 ((mm_cons r l _).2 (Or.inl ⟨hL.1, Int.le_refl _⟩))) (mm_nil _)
  | r :: l, k :: m, hL, hK, h => by
    have a1 := hL.1
    have a2 := hK.1
    have e1 : r.f1 = k.f1 := by
      have b1 := can_top hK ((h r.f1).1 ((mm_cons r l _).2 (Or.inl ⟨hL.1, Int.le_refl _⟩)))
      have b2 := can_top hL ((h k.f1).2 ((mm_cons k m _).2 (Or.inl ⟨hK.1, Int.le_refl _⟩)))
      omega
    have e0 : r.f0 = k.f0 := by
      apply Int.le_antisymm
      · apply Int.not_lt.1
        intro c
        have b := (h (r.f0 - 1)).2 ((mm_cons k m _).2 (Or.inl ⟨by omega, by omega⟩))
        rcases (mm_cons r l _).1 b with b | ⟨q, hq, b⟩
        · omega
        · have := hL.2.1 q hq; omega
      · apply Int.not_lt.1
        intro c
        have b := (h (k.f0 - 1)).1 ((mm_cons r l _).2 (Or.inl ⟨by omega, by omega⟩))
        rcases (mm_cons k m _).1 b with b | ⟨q, hq, b⟩
        · omega
        · have := hK.2.1 q hq; omega
    have e : r = k := by cases r; cases k; simp only at e0 e1; rw [e0, e1]
    subst e
    have et : l = m := can_uniq hL.2.2 hK.2.2 fun n => by
      constructor
      · rintro ⟨q, hq, b⟩
        have c := hL.2.1 q hq
        rcases (mm_cons r m n).1 ((h n).1 ((mm_cons r l n).2 (Or.inr ⟨q, hq, b⟩))) with d | d
        · omega
        · exact d
      · rintro ⟨q, hq, b⟩
        have c := hK.2.1 q hq
        rcases (mm_cons r l n).1 ((h n).2 ((mm_cons r m n).2 (Or.inr ⟨q, hq, b⟩))) with d | d
        · omega
        · exact d
    rw [et]
theorem put_t : ∀ (l : List RangeD) (x : RangeD), x.f0 ≤ x.f1 → (∀ q ∈ l, q.f1 < x.f0 - 1 ∧ q.f0 ≤ q.f1) → putG l x true = l
  | [], x, _, _ => rfl
  | r :: l, x, hx, h => by
    have h0 := h r List.mem_cons_self
    rw [putG, if_neg (by omega), if_pos h0.1, put_t l x hx (fun q hq => h q (List.mem_cons_of_mem _ hq))]
    rfl
theorem can_put : ∀ (L : List RangeD) (x : RangeD), Can L → x.f0 ≤ x.f1 → Can (putG L x false) ∧ ∀ n, Mm (putG L x false) n ↔ (Mm L n ∨ (x.f0 ≤ n ∧ n ≤ x.f1))
  | [], x, _, hx => by
    refine ⟨⟨hx, fun q hq => (by cases hq), trivial⟩, fun n => ?_⟩
    show Mm [x] n ↔ _
    rw [mm_cons]
    constructor
    · rintro (h | h)
      · exact Or.inr h
      · exact Or.inl h
    · rintro (h | h)
      · exact Or.inr h
      · exact Or.inl h
  | r :: l, x, hL, hx => by
    have hr := hL.1
    rw [putG]
    by_cases h1 : x.f1 + 1 < r.f0
    · rw [if_pos h1]
      obtain ⟨i1, i2⟩ := can_put l x hL.2.2 hx
      refine ⟨⟨hr, fun q hq => ?_, i1⟩, fun n => ?_⟩
      · rcases (i2 q.f1).1 ⟨q, hq, can_le i1 q hq, Int.le_refl _⟩ with ⟨p, hp, b⟩ | b
        · have := hL.2.1 p hp; omega
        · omega
      · rw [mm_cons, mm_cons, i2 n]
        constructor
        · rintro (h | h | h)
          · exact Or.inl (Or.inl h)
          · exact Or.inl (Or.inr h)
          · exact Or.inr h
        · rintro ((h | h) | h)
          · exact Or.inl h
          · exact Or.inr (Or.inl h)
          · exact Or.inr (Or.inr h)
    · rw [if_neg h1]
      by_cases h2 : r.f1 < x.f0 - 1
      · rw [if_pos h2]
        have e : putG l x true = l := put_t l x hx fun q hq => ⟨by have := hL.2.1 q hq; omega, can_le hL.2.2 q hq⟩
        show Can (x :: r :: putG l x true) ∧ ∀ n, Mm (x :: r :: putG l x true) n ↔ _
        rw [e]
        refine ⟨⟨hx, fun q hq => ?_, hL⟩, fun n => ?_⟩
        · rcases List.mem_cons.1 hq with rfl | hq
          · omega
          · have := hL.2.1 q hq; omega
        · rw [mm_cons x]
          constructor
          · rintro (h | h)
            · exact Or.inr h
            · exact Or.inl h
          · rintro (h | h)
            · exact Or.inr h
            · exact Or.inl h
      · rw [if_neg h2]
        have hm : (mrg r x).f0 ≤ (mrg r x).f1 := by unfold mrg; simp only; split <;> split <;> omega
        obtain ⟨i1, i2⟩ := can_put l (mrg r x) hL.2.2 hm
        refine ⟨i1, fun n => ?_⟩
        rw [i2 n, mm_cons]
        have k : ((mrg r x).f0 ≤ n ∧ n ≤ (mrg r x).f1) ↔ ((r.f0 ≤ n ∧ n ≤ r.f1) ∨ (x.f0 ≤ n ∧ n ≤ x.f1)) := by
          unfold mrg
          simp only
          split <;> split <;> omega
        rw [k]
        constructor
        · rintro (h | h | h)
          · exact Or.inl (Or.inr h)
          · exact Or.inl (Or.inl h)
          · exact Or.inr h
        · rintro ((h | h) | h)
          · exact Or.inr (Or.inl h)
          · exact Or.inl h
          · exact Or.inr (Or.inr h)
theorem can_jn : ∀ (B A : List RangeD), Can A → (∀ q ∈ B, q.f0 ≤ q.f1) → Can (jnG A B) ∧ ∀ n, Mm (jnG A B) n ↔ (Mm A n ∨ Mm B n)
  | [], A, hA, _ => ⟨hA, fun n => ⟨fun h => Or.inl h, fun h => h.elim id (fun h => absurd h (mm_nil n))⟩⟩
  | x :: B, A, hA, hB => by
    obtain ⟨p1, p2⟩ := can_put A x hA (hB x List.mem_cons_self)
    obtain ⟨i1, i2⟩ := can_jn B (putG A x false) p1 (fun q hq => hB q (List.mem_cons_of_mem _ hq))
    refine ⟨i1, fun n => ?_⟩
    show Mm (jnG (putG A x false) B) n ↔ _
    rw [i2 n, p2 n, mm_cons]
    constructor
    · rintro ((h | h) | h)
      · exact Or.inl h
      · exact Or.inr (Or.inl h)
      · exact Or.inr (Or.inr h)
    · rintro (h | h | h)
      · exact Or.inl (Or.inl h)
      · exact Or.inl (Or.inr h)
      · exact Or.inr h
theorem can_snoc : ∀ (O : List RangeD) (x : RangeD), Can O → x.f0 ≤ x.f1 → (∀ r ∈ O, x.f1 + 1 < r.f0) → Can (O ++ [x])
  | [], x, _, hx, _ => ⟨hx, fun q hq => (by cases hq), trivial⟩
  | r :: l, x, hO, hx, h => by
    refine ⟨hO.1, fun q hq => ?_, can_snoc l x hO.2.2 hx (fun q hq => h q (List.mem_cons_of_mem _ hq))⟩
    rcases List.mem_append.1 hq with hq | hq
    · exact hO.2.1 q hq
    · simp at hq
      rw [hq]
      exact h r List.mem_cons_self
/-- what stands between two rounds of a join: what is joined, and what is still to come of both -/
structure JI (A B O A1 B1 : List RangeD) : Prop where
  o : Can O
  a : Can A1
  b : Can B1
  la : ∀ q ∈ A1, ∀ r ∈ O, q.f1 + 1 < r.f0
  lb : ∀ q ∈ B1, ∀ r ∈ O, q.f1 + 1 < r.f0
  m : ∀ n, (Mm O n ∨ (Mm A1 n ∨ Mm B1 n)) ↔ (Mm A n ∨ Mm B n)
/-- the same with a range in the making -/
structure JW (A B O : List RangeD) (x : RangeD) (A1 B1 : List RangeD) : Prop where
  o : Can O
  xx : x.f0 ≤ x.f1
  a : Can A1
  b : Can B1
  lx : ∀ r ∈ O, x.f1 + 1 < r.f0
  la : ∀ q ∈ A1, q.f1 ≤ x.f1
  lb : ∀ q ∈ B1, q.f1 ≤ x.f1
  m : ∀ n, (Mm O n ∨ ((x.f0 ≤ n ∧ n ≤ x.f1) ∨ (Mm A1 n ∨ Mm B1 n))) ↔ (Mm A n ∨ Mm B n)
theorem JI.start {A B : List RangeD} (hA : Can A) (hB : Can B) : JI A B [] A B :=
  ⟨trivial, hA, hB, fun _ _ r hr => (by cases hr), fun _ _ r hr => (by cases hr), fun n => ⟨fun h => h.elim (fun h => absurd h (mm_nil n)) id, Or.inr⟩⟩
theorem can_below {r : RangeD} {l : List RangeD} (h : Can (r :: l)) (y : Int) (hy : r.f1 ≤ y) : ∀ q ∈ r :: l, q.f1 ≤ y := by
  intro q hq
  have h0 := h.1
  rcases List.mem_cons.1 hq with rfl | hq
  · exact hy
  · have := h.2.1 q hq; omega
theorem JI.takeA {A B O A2 B1 : List RangeD} {r : RangeD} (h : JI A B O (r :: A2) B1) (hb : ∀ q ∈ B1, q.f1 ≤ r.f1) : JW A B O r A2 B1 :=
  ⟨h.o, h.a.1, h.a.2.2, h.b, h.la r List.mem_cons_self, fun q hq => can_below h.a r.f1 (Int.le_refl _) q (List.mem_cons_of_mem _ hq), hb, fun n => by
    rw [← h.m n, mm_cons]
    constructor
    · rintro (h | h | h | h)
      · exact Or.inl h
      · exact Or.inr (Or.inl (Or.inl h))
      · exact Or.inr (Or.inl (Or.inr h))
      · exact Or.inr (Or.inr h)
    · rintro (h | (h | h) | h)
      · exact Or.inl h
      · exact Or.inr (Or.inl h)
      · exact Or.inr (Or.inr (Or.inl h))
      · exact Or.inr (Or.inr (Or.inr h))⟩
theorem JI.swap {A B O A1 B1 : List RangeD} (h : JI A B O A1 B1) : JI A B O B1 A1 :=
  ⟨h.o, h.b, h.a, h.lb, h.la, fun n => by rw [← h.m n, or_comm (a := Mm B1 n)]⟩
theorem JW.swap {A B O A1 B1 : List RangeD} {x : RangeD} (h : JW A B O x A1 B1) : JW A B O x B1 A1 :=
  ⟨h.o, h.xx, h.b, h.a, h.lx, h.lb, h.la, fun n => by rw [← h.m n, or_comm (a := Mm B1 n)]⟩
theorem JI.takeB {A B O A1 B2 : List RangeD} {r : RangeD} (h : JI A B O A1 (r :: B2)) (ha : ∀ q ∈ A1, q.f1 ≤ r.f1) : JW A B O r A1 B2 := (h.swap.takeA ha).swap
/-- a range with one more that reaches it -/
def low (x r : RangeD) : RangeD := ⟨min x.f0 r.f0, x.f1⟩
theorem JW.stepA {A B O A2 B1 : List RangeD} {x r : RangeD} (h : JW A B O x (r :: A2) B1) (hr : x.f0 - 1 ≤ r.f1) : JW A B O (low x r) A2 B1 := by
  have h0 := h.xx
  have h1 := h.a.1
  have h2 := h.la r List.mem_cons_self
  have e : (low x r).f0 = min x.f0 r.f0 := rfl
  have e1 : (low x r).f1 = x.f1 := rfl
  refine ⟨h.o, by rw [e, e1]; omega, h.a.2.2, h.b, h.lx, fun q hq => h.la q (List.mem_cons_of_mem _ hq), h.lb, fun n => ?_⟩
  rw [← h.m n, mm_cons, e, e1]
  have k : (min x.f0 r.f0 ≤ n ∧ n ≤ x.f1) ↔ ((x.f0 ≤ n ∧ n ≤ x.f1) ∨ (r.f0 ≤ n ∧ n ≤ r.f1)) := by omega
  rw [k]
  constructor
  · rintro (h | (h | h) | h | h)
    · exact Or.inl h
    · exact Or.inr (Or.inl h)
    · exact Or.inr (Or.inr (Or.inl (Or.inl h)))
    · exact Or.inr (Or.inr (Or.inl (Or.inr h)))
    · exact Or.inr (Or.inr (Or.inr h))
  · rintro (h | h | (h | h) | h)
    · exact Or.inl h
    · exact Or.inr (Or.inl (Or.inl h))
    · exact Or.inr (Or.inl (Or.inr h))
    · exact Or.inr (Or.inr (Or.inl h))
    · exact Or.inr (Or.inr (Or.inr h))
theorem JW.stepB {A B O A1 B2 : List RangeD} {x r : RangeD} (h : JW A B O x A1 (r :: B2)) (hr : x.f0 - 1 ≤ r.f1) : JW A B O (low x r) A1 B2 := (h.swap.stepA hr).swap
theorem far {l : List RangeD} {x : RangeD} (h : Can l) (hx : ∀ r m, l = r :: m → r.f1 < x.f0 - 1) : ∀ q ∈ l, q.f1 + 1 < x.f0 := by
  cases l with
  | nil => intro q hq; cases hq
  | cons r m =>
    intro q hq
    have h0 := hx r m rfl
    have := can_below h r.f1 (Int.le_refl _) q hq
    omega
theorem JW.put {A B O A1 B1 : List RangeD} {x : RangeD} (h : JW A B O x A1 B1) (ha : ∀ r m, A1 = r :: m → r.f1 < x.f0 - 1) (hb : ∀ r m, B1 = r :: m → r.f1 < x.f0 - 1) : JI A B (O ++ [x]) A1 B1 := by
  have hx := h.xx
  have fa := far h.a ha
  have fb := far h.b hb
  refine ⟨can_snoc O x h.o h.xx h.lx, h.a, h.b, fun q hq r hr => ?_, fun q hq r hr => ?_, fun n => ?_⟩
  · have c := fa q hq
    rcases List.mem_append.1 hr with hr | hr
    · have := h.lx r hr; omega
    · simp at hr; rw [hr]; exact c
  · have c := fb q hq
    rcases List.mem_append.1 hr with hr | hr
    · have := h.lx r hr; omega
    · simp at hr; rw [hr]; exact c
  · rw [← h.m n, mm_app, mm_cons]
    constructor
    · rintro ((h | h | h) | h)
      · exact Or.inl h
      · exact Or.inr (Or.inl h)
      · exact absurd h (mm_nil n)
      · exact Or.inr (Or.inr h)
    · rintro (h | h | h)
      · exact Or.inl (Or.inl h)
      · exact Or.inl (Or.inr (Or.inl h))
      · exact Or.inr h
theorem JI.fin {A B O : List RangeD} (h : JI A B O [] []) (hA : Can A) (hB : ∀ q ∈ B, q.f0 ≤ q.f1) : O = jnG A B := by
  obtain ⟨j1, j2⟩ := can_jn B A hA hB
  refine can_uniq h.o j1 fun n => ?_
  rw [j2 n, ← h.m n]
  constructor
  · exact Or.inl
  · rintro (h | h | h)
    · exact h
    · exact absurd h (mm_nil n)
    · exact absurd h (mm_nil n)
theorem gt_succ (r : RangeD) (L : List RangeD) (k : Nat) : gt rangeK (r :: L) (k + 1) = gt rangeK L k := by simp [gt, List.getD]
/-- good ranges fall -/
theorem can_of : ∀ (L : List RangeD), (∀ i, i < L.length → okR (fF L) (fT L) i = true) → Can L ∧ ∀ q ∈ L, L = [] ∨ q.f1 ≤ fT L 0
  | [], _ => ⟨trivial, fun q hq => (by cases hq)⟩
  | r :: l, h => by
    have h0 := h 0 (by simp)
    have hl : ∀ i, i < l.length → okR (fF l) (fT l) i = true := fun i hi => by
      have h1 := h (i + 1) (by simpa using hi)
      unfold okR at h1 ⊢
      rw [decide_eq_true_eq] at h1 ⊢
      unfold fF fT at h1 ⊢
      rw [gt_succ] at h1
      refine ⟨h1.1, h1.2.1, h1.2.2.1, ?_⟩
      cases i with
      | zero => exact Or.inl rfl
      | succ j =>
        right
        rcases h1.2.2.2 with h2 | h2
        · omega
        · rw [show j + 1 + 1 - 1 = j + 1 by omega, gt_succ] at h2
          exact h2
    obtain ⟨c1, c2⟩ := can_of l hl
    unfold okR at h0
    rw [decide_eq_true_eq] at h0
    unfold fF fT at h0
    have e0 : gt rangeK (r :: l) 0 = r := rfl
    rw [e0] at h0
    have far0 : ∀ q ∈ l, q.f1 + 1 < r.f0 := by
      intro q hq
      cases l with
      | nil => cases hq
      | cons y m =>
        have h1 := h 1 (by simp)
        unfold okR at h1
        rw [decide_eq_true_eq] at h1
        unfold fF fT at h1
        have e1 : gt rangeK (r :: y :: m) 1 = y := rfl
        rw [e1, e0] at h1
        have h3 := c2 q hq
        unfold fT at h3
        have e2 : gt rangeK (y :: m) 0 = y := rfl
        rw [e2] at h3
        rcases h3 with h3 | h3
        · cases h3
        · omega
    refine ⟨⟨h0.2.1, far0, c1⟩, fun q hq => Or.inr ?_⟩
    unfold fT
    rw [e0]
    rcases List.mem_cons.1 hq with rfl | hq
    · exact Int.le_refl _
    · have := far0 q hq; omega
theorem gr_can {L : List RangeD} (h : grB L = true) : Can L := by
  unfold grB at h
  rw [Bool.and_eq_true] at h
  have h2 := h.2
  unfold allR at h2
  rw [List.all_eq_true] at h2
  exact (can_of L (fun i hi => h2 i (List.mem_range.2 hi))).1
end Go.Proofs.Ytccfbkpelehldaa.Rc
