/-
  Contracts: the program's RemoveConfig; what tables become.
-/
import Derived.Test.YtbabipaipbjlbaaSloX
namespace Go.Proofs.Ytbabipaipbjlbaa
open Go.ChangeShapes Go.WideShapes Go.ChangeAt Go.RowKit Go.Deep Go.Maps
set_option linter.unusedVariables false
set_option maxRecDepth 100000

theorem mem_eA {L : List EnD} {e : EnD} : e ∈ L ↔ ∃ i, i < L.length ∧ eA L i = e := by
  rw [List.mem_iff_getElem]
  constructor
  · rintro ⟨i, h, q⟩; exact ⟨i, h, by simp [eA, List.getD, List.getElem?_eq_getElem h, q]⟩
  · rintro ⟨i, h, q⟩; exact ⟨i, h, by simpa [eA, List.getD, List.getElem?_eq_getElem h] using q⟩
theorem up_of (L : List EnD) (h : ∀ i j, i < j → j < L.length → (eA L i).sl < (eA L j).sl) : upL L := by
  unfold upL
  rw [List.pairwise_iff_getElem]
  intro i j hi hj hij
  simpa [eA, List.getD, List.getElem?_eq_getElem hj, List.getElem?_eq_getElem hi] using h i j hij hj
theorem atE_some (L : List EnD) (s : Int) (e : EnD) : ∀ n, atE L s n = some e → ∃ i, i < n ∧ eA L i = e ∧ e.sl = s
  | 0, h => by cases h
  | n + 1, h => by
    unfold atE at h
    by_cases c : (eA L n).sl = s
    · rw [if_pos c] at h; injection h with h; exact ⟨n, by omega, h, by rw [← h]; exact c⟩
    · rw [if_neg c] at h
      obtain ⟨i, h1, h2⟩ := atE_some L s e n h
      exact ⟨i, by omega, h2⟩
theorem atE_has (L : List EnD) (s : Int) : ∀ n i, i < n → (eA L i).sl = s → ∃ e, atE L s n = some e
  | 0, i, h, _ => absurd h (Nat.not_lt_zero _)
  | n + 1, i, h, e => by
    unfold atE
    by_cases c : (eA L n).sl = s
    · exact ⟨_, if_pos c⟩
    · rw [if_neg c]
      exact atE_has L s n i (by have : i ≠ n := fun q => c (q ▸ e); omega) e
theorem up_uniq {L : List EnD} (hu : upL L) {i j : Nat} (hi : i < L.length) (hj : j < L.length) (h : (eA L i).sl = (eA L j).sl) : i = j := by
  rcases Nat.lt_trichotomy i j with q | q | q
  · have := up_lt hu i j q hj; omega
  · exact q
  · have := up_lt hu j i q hi; omega
/-- what a map out of slotsOf tells -/
theorem Fk.fl {L : List EnD} {F : Int → Option EnR} (hu : upL L) (h : Fk L L.length F) : FL F L := by
  refine ⟨fun s => ?_, fun e he => ?_⟩
  · have hs := h s
    constructor
    · intro q
      obtain ⟨r, hr⟩ := Option.isSome_iff_exists.1 q
      rw [hr] at hs
      obtain ⟨i, h1, h2, h3⟩ := atE_some L s r.D L.length hs.symm
      exact ⟨r.D, mem_eA.2 ⟨i, h1, h2⟩, h3⟩
    · rintro ⟨e, he, q⟩
      obtain ⟨i, h1, h2⟩ := mem_eA.1 he
      obtain ⟨e', h3⟩ := atE_has L s L.length i h1 (by rw [h2]; exact q)
      rw [h3] at hs
      cases e9 : F s with
      | none => rw [e9] at hs; cases hs
      | some r => rfl
  · obtain ⟨i, h1, h2⟩ := mem_eA.1 he
    obtain ⟨e', h3⟩ := atE_has L e.sl L.length i h1 (by rw [h2])
    have hs := h e.sl
    rw [h3] at hs
    obtain ⟨j, g1, g2, g3⟩ := atE_some L e.sl e' L.length h3
    have : i = j := up_uniq hu h1 g1 (by rw [h2, g2, g3])
    cases e9 : F e.sl with
    | none => rw [e9] at hs; cases hs
    | some r =>
      rw [e9] at hs
      injection hs with hs
      exact ⟨r, rfl, by show r.D = e; rw [show r.D = e' from hs, ← g2, ← this, h2]⟩
/-- the list without entry i -/
def erE (L : List EnD) (i : Nat) : List EnD := L.take i ++ L.drop (i + 1)
theorem er_sub (L : List EnD) (i : Nat) : (erE L i).Sublist L := by
  unfold erE
  rw [← List.eraseIdx_eq_take_drop_succ]
  exact List.eraseIdx_sublist L i
theorem er_mem {L : List EnD} (hu : upL L) {i : Nat} (hi : i < L.length) (e : EnD) : e ∈ erE L i ↔ e ∈ L ∧ e.sl ≠ (eA L i).sl := by
  unfold erE
  rw [← List.eraseIdx_eq_take_drop_succ, List.mem_eraseIdx_iff_getElem?]
  constructor
  · rintro ⟨j, hj, q⟩
    have hjl := (List.getElem?_eq_some_iff.1 q).1
    have ej : eA L j = e := by simp [eA, List.getD, q]
    exact ⟨mem_eA.2 ⟨j, hjl, ej⟩, fun c => hj (up_uniq hu hjl hi (by rw [ej]; exact c))⟩
  · rintro ⟨he, c⟩
    obtain ⟨j, hj, ej⟩ := mem_eA.1 he
    exact ⟨j, fun q => c (by rw [← ej, q]), by rw [List.getElem?_eq_getElem hj, ← ej]; simp [eA, List.getD, List.getElem?_eq_getElem hj]⟩
theorem FL.erase {F : Int → Option EnR} {L : List EnD} (hu : upL L) (h : FL F L) {i : Nat} (hi : i < L.length) : FL (putF F (eA L i).sl none) (erE L i) := by
  refine ⟨fun s => ?_, fun e he => ?_⟩
  · unfold putF
    by_cases c : s = (eA L i).sl
    · rw [if_pos c]
      constructor
      · intro q; cases q
      · rintro ⟨e, he, q⟩
        exact absurd (q.trans c) ((er_mem hu hi e).1 he).2
    · rw [if_neg c, h.1 s]
      constructor
      · rintro ⟨e, he, q⟩; exact ⟨e, (er_mem hu hi e).2 ⟨he, by rw [q]; exact c⟩, q⟩
      · rintro ⟨e, he, q⟩; exact ⟨e, ((er_mem hu hi e).1 he).1, q⟩
  · obtain ⟨h1, h2⟩ := (er_mem hu hi e).1 he
    obtain ⟨r, h3, h4⟩ := h.2 e h1
    exact ⟨r, by unfold putF; rw [if_neg h2]; exact h3, h4⟩
theorem gt_facts {L : List EnD} (h : gtB L = true) : L.length ≤ 3 ∧ upL L ∧ ∀ e ∈ L, (Lit.int .i64 e.sl).wf = true := by
  unfold gtB at h
  rw [Bool.and_eq_true, decide_eq_true_eq] at h
  refine ⟨h.1, up_of L (okT_up L h.2), fun e he => ?_⟩
  obtain ⟨i, h1, h2⟩ := mem_eA.1 he
  have h3 := okT_slot L h.2 i h1
  rw [h2] at h3
  exact WalkArith.wf_i64 (by have := ((gcB_iff _ _ _ _).1 h3.1).1; have := h3.2.1; omega)
theorem gt_len {L : List EnD} (h : gtB L = true) : ∀ i, i < L.length → (eA L i).S.length ≤ 12 := by
  unfold gtB at h
  rw [Bool.and_eq_true] at h
  have h2 := h.2
  clear h
  have : ∀ m, okT L m = true → ∀ i, i < m → (eA L i).S.length ≤ 12 := by
    intro m
    induction m with
    | zero => intro _ i hi; omega
    | succ m ih =>
      intro h i hi
      unfold okT at h
      simp only [Bool.and_eq_true, geB, gsB, decide_eq_true_eq] at h
      by_cases e : i = m
      · subst e; exact h.2.1.1.1.2.1
      · exact ih h.1 i (by omega)
  exact this L.length h2
/-- what RemoveConfig makes of a table -/
def rmP (L : List EnD) (s : Int) (L' : List EnD) (c : Int) : Prop :=
  (gtB L = false ∧ L' = [] ∧ c = 1) ∨ (gtB L = true ∧ (∀ i, i < L.length → (eA L i).sl ≠ s) ∧ L' = L ∧ c = 2) ∨ (gtB L = true ∧ ∃ i, i < L.length ∧ (eA L i).sl = s ∧ L' = erE L i ∧ c = 0)
theorem rmP_uniq {L : List EnD} {s : Int} {L1 L2 : List EnD} {c1 c2 : Int} (h1 : rmP L s L1 c1) (h2 : rmP L s L2 c2) : L1 = L2 ∧ c1 = c2 := by
  rcases h1 with ⟨a, rfl, rfl⟩ | ⟨a, b, rfl, rfl⟩ | ⟨a, i, b1, b2, rfl, rfl⟩ <;> rcases h2 with ⟨a', rfl, rfl⟩ | ⟨a', b', rfl, rfl⟩ | ⟨a', i', b1', b2', rfl, rfl⟩
  · exact ⟨rfl, rfl⟩
  · rw [a] at a'; cases a'
  · rw [a] at a'; cases a'
  · rw [a] at a'; cases a'
  · exact ⟨rfl, rfl⟩
  · exact absurd b2' (b i' b1')
  · rw [a] at a'; cases a'
  · exact absurd b2 (b' i b1)
  · rw [up_uniq (gt_facts a).2.1 b1 b1' (b2.trans b2'.symm)]; exact ⟨rfl, rfl⟩
end Go.Proofs.Ytbabipaipbjlbaa
