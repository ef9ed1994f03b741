/-
  Contracts: the program's AllocServer.
-/
import Derived.Test.YthgogkimjhjepaaAlo
namespace Go.Proofs.Ythgogkimjhjepaa
open Go.ChangeShapes Go.WideShapes Go.ChangeAt Go.RowKit Go.Deep Go.Maps
set_option linter.unusedVariables false
set_option maxRecDepth 100000

theorem okT_gs (L : List EnD) : ∀ {m : Nat}, okT L m = true → ∀ i, i < m → gsB (eA L i).S (eA L i).sv = true
  | 0, _, i, hi => absurd hi (Nat.not_lt_zero _)
  | m + 1, h, i, hi => by
    unfold okT at h
    simp only [Bool.and_eq_true, geB] at h
    by_cases e : i = m
    · subst e; exact h.2.1.1.1.2
    · exact okT_gs L h.1 i (by omega)
theorem gt_srv {L : List EnD} (h : gtB L = true) : ∀ i, i < L.length → gsB (eA L i).S (eA L i).sv = true := by
  unfold gtB at h
  rw [Bool.and_eq_true] at h
  exact okT_gs L h.2
theorem stE_at (L : List EnD) (i j : Nat) (D : EnD) (hj : j < L.length) : eA (L.set i D) j = if j = i then D else eA L j := by
  unfold eA
  by_cases e : j = i
  · subst e; rw [if_pos rfl]; simp [List.getD, hj]
  · rw [if_neg e]; simp [List.getD, List.getElem?_set_ne (fun q => e q.symm)]
theorem stE_mem {L : List EnD} {i : Nat} (hi : i < L.length) (D x : EnD) : x ∈ L.set i D ↔ x = D ∨ ∃ j, j < L.length ∧ j ≠ i ∧ eA L j = x := by
  rw [mem_eA]
  constructor
  · rintro ⟨j, h1, h2⟩
    rw [List.length_set] at h1
    rw [stE_at L i j D h1] at h2
    by_cases e : j = i
    · rw [if_pos e] at h2; exact Or.inl h2.symm
    · rw [if_neg e] at h2; exact Or.inr ⟨j, h1, e, h2⟩
  · rintro (h | ⟨j, h1, h2, h3⟩)
    · exact ⟨i, by rw [List.length_set]; exact hi, by rw [stE_at L i i D hi, if_pos rfl, h]⟩
    · exact ⟨j, by rw [List.length_set]; exact h1, by rw [stE_at L i j D h1, if_neg h2, h3]⟩
theorem stE_up {L : List EnD} (hu : upL L) {i : Nat} {D : EnD} (hi : i < L.length) (hsl : D.sl = (eA L i).sl) : upL (L.set i D) := by
  refine up_of _ (fun j k hjk hk => ?_)
  rw [List.length_set] at hk
  have h := up_lt hu j k hjk hk
  rw [stE_at L i j D (by omega), stE_at L i k D hk]
  by_cases e1 : j = i
  · rw [if_pos e1, if_neg (by omega), hsl, ← e1]; exact h
  · rw [if_neg e1]
    by_cases e2 : k = i
    · rw [if_pos e2, hsl, ← e2]; exact h
    · rw [if_neg e2]; exact h
theorem FL.setE {F : Int → Option EnR} {L : List EnD} (hu : upL L) (h : FL F L) {i : Nat} (hi : i < L.length) (D : EnD) (hsl : D.sl = (eA L i).sl) (r : EnR) (hr : r.D = D) : FL (putF F (eA L i).sl (some r)) (L.set i D) := by
  refine ⟨fun s => ?_, fun x hx => ?_⟩
  · unfold putF
    by_cases c : s = (eA L i).sl
    · rw [if_pos c]
      exact ⟨fun _ => ⟨D, (stE_mem hi D D).2 (Or.inl rfl), by rw [hsl, c]⟩, fun _ => rfl⟩
    · rw [if_neg c, h.1 s]
      constructor
      · rintro ⟨x, hx, q⟩
        obtain ⟨j, h1, h2⟩ := mem_eA.1 hx
        exact ⟨x, (stE_mem hi D x).2 (Or.inr ⟨j, h1, fun e => c (by rw [← q, ← h2, e]), h2⟩), q⟩
      · rintro ⟨x, hx, q⟩
        rcases (stE_mem hi D x).1 hx with e | ⟨j, h1, _, h3⟩
        · exact absurd (by rw [← q, e, hsl]) c
        · exact ⟨x, mem_eA.2 ⟨j, h1, h3⟩, q⟩
  · unfold putF
    rcases (stE_mem hi D x).1 hx with e | ⟨j, h1, h2, h3⟩
    · rw [if_pos (by rw [e, hsl])]; exact ⟨r, rfl, by rw [hr, e]⟩
    · rw [if_neg (fun e => h2 (up_uniq hu h1 hi (by rw [h3]; exact e)))]
      exact h.2 x (mem_eA.2 ⟨j, h1, h3⟩)
/-- what AllocServer makes of an entry that is there -/
def auE (e : EnD) (id bk : ByteArray) (L : List EnD) (i : Nat) (L' : List EnD) (c : Int) : Prop :=
  (¬ (id.size : Int) = e.sv ∧ L' = L ∧ c = 1) ∨ ((id.size : Int) = e.sv ∧ tw e.S id bk ∧ L' = L ∧ c = 3) ∨ ((id.size : Int) = e.sv ∧ ¬ tw e.S id bk ∧ e.S.length = 12 ∧ L' = L ∧ c = 4) ∨
  ((id.size : Int) = e.sv ∧ ¬ tw e.S id bk ∧ ¬ e.S.length = 12 ∧ L' = L.set i (inS e (plP e.S id) ⟨id, bk⟩) ∧ c = 0)
theorem auE_uniq {e : EnD} {id bk : ByteArray} {L : List EnD} {i : Nat} {L1 L2 : List EnD} {c1 c2 : Int} (h1 : auE e id bk L i L1 c1) (h2 : auE e id bk L i L2 c2) : L1 = L2 ∧ c1 = c2 := by
  rcases h1 with ⟨a, rfl, rfl⟩ | ⟨a, b, rfl, rfl⟩ | ⟨a, b, d, rfl, rfl⟩ | ⟨a, b, d, rfl, rfl⟩ <;> rcases h2 with ⟨a', rfl, rfl⟩ | ⟨a', b', rfl, rfl⟩ | ⟨a', b', d', rfl, rfl⟩ | ⟨a', b', d', rfl, rfl⟩ <;>
    first
    | exact ⟨rfl, rfl⟩
    | exact absurd a' a
    | exact absurd a a'
    | exact absurd b' b
    | exact absurd b b'
    | exact absurd d' d
    | exact absurd d d'
/-- what AllocServer makes of a table -/
def auP (L : List EnD) (s : Int) (id bk : ByteArray) (L' : List EnD) (c : Int) : Prop :=
  (gtB L = false ∧ L' = [] ∧ c = 1) ∨ (gtB L = true ∧ bkB bk = false ∧ L' = L ∧ c = 1) ∨
  (gtB L = true ∧ bkB bk = true ∧ (∀ i, i < L.length → (eA L i).sl ≠ s) ∧ L' = L ∧ c = 2) ∨
  (gtB L = true ∧ bkB bk = true ∧ ∃ i, i < L.length ∧ (eA L i).sl = s ∧ auE (eA L i) id bk L i L' c)
theorem auP_uniq {L : List EnD} {s : Int} {id bk : ByteArray} {L1 L2 : List EnD} {c1 c2 : Int} (h1 : auP L s id bk L1 c1) (h2 : auP L s id bk L2 c2) : L1 = L2 ∧ c1 = c2 := by
  rcases h1 with ⟨a, rfl, rfl⟩ | ⟨a, b, rfl, rfl⟩ | ⟨a, b, d, rfl, rfl⟩ | ⟨a, b, i, d1, d2, d3⟩ <;> rcases h2 with ⟨a', rfl, rfl⟩ | ⟨a', b', rfl, rfl⟩ | ⟨a', b', d', rfl, rfl⟩ | ⟨a', b', i', d1', d2', d3'⟩ <;>
    first
    | exact ⟨rfl, rfl⟩
    | (exfalso; rw [a] at a'; cases a'; done)
    | (exfalso; rw [b] at b'; cases b'; done)
    | exact absurd d2' (d i' d1')
    | exact absurd d2 (d' i d1)
    | (obtain rfl := up_uniq (gt_facts a).2.1 d1 d1' (d2.trans d2'.symm); exact auE_uniq d3 d3')
set_option maxHeartbeats 4000000 in
theorem implAl (a : Option Addr) (cap : Nat) (L : List EnD) (s : Int) (id bk : ByteArray) (w : World) (hs : (Lit.int .i64 s).wf = true) (hid : id.size ≤ 1048576) (hbk : bk.size ≤ 1048576) (hG : okE L) (hS : ∀ i, i < L.length → (eA L i).S.length ≤ 1048576) (hsm : gtB L = true → smE L) (h : Ea w a L) :
    Calls Try.prog 7 #[.agg #[.slice a L.length cap], .int .i64 s, .string id, .string bk] w fun e w' => ∃ L' c a' cap', auP L s id bk L' c ∧ e = .returned (.tuple #[.agg #[.slice a' L'.length cap'], .int .i64 c]) ∧ En w.heap.size w' a' L' ∧ Below w.heap.size w w' := by
  have AL : Below w.heap.size w ((w.alloc (.cells #[.slice a L.length cap] 28)).alloc (.cells #[.slice none 0 0] 28)) := ((Below.refl _ _).alloc (Nat.le_refl _) _).alloc (by simp) _
  have HAL := hide AL
  cases hgt : gtB L with
  | false =>
    have HN := hide (slots_no a cap L _ hG hS hgt (h.below AL))
    have HP : Hid (auP L s id bk [] 1) := Or.inl ⟨hgt, rfl, rfl⟩
    clear h hG hS hsm hgt AL
    go_enter Try.func7, Try.ntmps7
    go_wp2_with fail
    refine (unhide HN).mono ?_
    rintro e w1 ⟨rfl, b1⟩
    have R1 : Bx w1 (w.heap.size + 1) [.slice none 0 0] := (Bx.newAt (w.alloc _) _ _ _ (by simp)).below b1
    have B1 := hide ((unhide HAL).trans (b1.mono (unhide HAL).size))
    have r1 := R1.cv
    have r2 := R1.fz
    clear R1 b1
    go_wp2
    refine bodyPost_ret (v := .tuple #[.agg #[.slice none 0 0], .int .i64 1]) (by simp [results, Try.results7, go_sem, r1]) rfl ⟨[], 1, none, 0, unhide HP, rfl, Or.inl rfl, ?_⟩
    exact (unhide B1).setCell (by simp) _
  | true =>
    obtain ⟨hL3, hu, hwf⟩ := gt_facts hgt
    have HN := hide (slots_own a cap L _ hG hS (hsm hgt) hgt (h.below AL))
    have HGT := hide hgt
    have HGS := hide (gt_srv hgt)
    have HG12 := hide (gt_len hgt)
    clear h hG hS hsm hgt AL
    go_enter Try.func7, Try.ntmps7
    go_wp2_with fail
    refine (unhide HN).mono ?_
    rintro e w1 ⟨b, F, B, rfl, hM, hFk, hRa, b1⟩
    have hF := hFk.fl hu
    have R1 : Bx w1 (w.heap.size + 1) [.slice none 0 0] := (Bx.newAt (w.alloc _) _ _ _ (by simp)).below b1
    have B1 := hide ((unhide HAL).trans (b1.mono (unhide HAL).size))
    have hM : Mo (w.heap.size + 1 + 1) w1 b L.length F B := by simpa using hM
    have hRa : Ra (w.heap.size + 1 + 1) w1 F := by simpa using hRa
    have hsz : w.heap.size + 1 + 1 ≤ w1.heap.size := by have := b1.size; simp at this; omega
    have HR := hide R1
    have HM := hide hM
    have HRA := hide hRa
    have HSZ := hide hsz
    clear R1 b1 hM hFk HN hsz hRa
    -- what alloc does, and what the table then is
    have ST : Hid (∃ (L2 : List EnD) (c2 : Int), auP L s id bk L2 c2 ∧ Calls Try.prog 18 #[.map (some b), .int .i64 s, .string id, .string bk] w1 fun e w' => e = .returned (.int .i64 c2) ∧ Below (w.heap.size + 1 + 1) w1 w' ∧
        Calls Try.prog 19 #[.map (some b)] w' fun e w'' => ∃ a' cap', e = .returned (.agg #[.slice a' L2.length cap']) ∧ En (w.heap.size + 1 + 1) w'' a' L2 ∧ Below w'.heap.size w' w'') := by
      have same : ∀ c2, auP L s id bk L c2 → (Calls Try.prog 18 #[.map (some b), .int .i64 s, .string id, .string bk] w1 fun e w' => e = .returned (.int .i64 c2) ∧ Below w1.heap.size w1 w') → ∃ (L2 : List EnD) (c2 : Int), auP L s id bk L2 c2 ∧ Calls Try.prog 18 #[.map (some b), .int .i64 s, .string id, .string bk] w1 fun e w' => e = .returned (.int .i64 c2) ∧ Below (w.heap.size + 1 + 1) w1 w' ∧
        Calls Try.prog 19 #[.map (some b)] w' fun e w'' => ∃ a' cap', e = .returned (.agg #[.slice a' L2.length cap']) ∧ En (w.heap.size + 1 + 1) w'' a' L2 ∧ Below w'.heap.size w' w'' := fun c2 hp hc => by
        refine ⟨L, c2, hp, hc.mono ?_⟩
        rintro e w' ⟨rfl, b'⟩
        exact ⟨rfl, b'.mono (unhide HSZ), tab_ok (w.heap.size + 1 + 1) b L.length F B L w' (Nat.le_trans (unhide HSZ) b'.size) (by omega) ((unhide HM).below b') hF hu hwf (by omega)⟩
      cases e9 : F s with
      | none =>
        have hno : ∀ i, i < L.length → (eA L i).sl ≠ s := fun i hi q => by
          have := (hF.1 s).2 ⟨eA L i, mem_eA.2 ⟨i, hi, rfl⟩, q⟩
          rw [e9] at this
          cases this
        have hlook : (Instr.lookup 48 (.map (some b)) (.int .i64 s) true).run Try.prog w1 = .ok (.tuple #[.agg #[.int .i64 0, .int .i64 0, .int .i64 0, .string ⟨#[]⟩, .bool false, .slice none ([] : List AlD).length 0, .int .i64 0], .bool false]) w1 := by
          rw [(unhide HM).mp.look_ok s hs]; unfold atV; rw [e9]; rfl
        cases hg : bkB bk with
        | false => exact same 1 (Or.inr (Or.inl ⟨unhide HGT, hg, rfl, rfl⟩)) (alEarly b s 0 0 0 0 ⟨#[]⟩ false none 0 [] false id bk 1 w1 (by simp) hid hbk hlook (Or.inl rfl) (Or.inl ⟨hg, rfl⟩))
        | true => exact same 2 (Or.inr (Or.inr (Or.inl ⟨unhide HGT, hg, hno, rfl, rfl⟩))) (alEarly b s 0 0 0 0 ⟨#[]⟩ false none 0 [] false id bk 2 w1 (by simp) hid hbk hlook (Or.inl rfl) (Or.inr (Or.inl ⟨hg, rfl, rfl⟩)))
      | some r =>
        obtain ⟨e0, he0, hes⟩ := (hF.1 s).1 (by rw [e9]; rfl)
        obtain ⟨i, hi, hie⟩ := mem_eA.1 he0
        have his : (eA L i).sl = s := by rw [hie]; exact hes
        have hrD : r.D = eA L i := by
          obtain ⟨r2, h1, h2⟩ := hF.2 (eA L i) (mem_eA.2 ⟨i, hi, rfl⟩)
          rw [his, e9] at h1
          injection h1 with h1
          rw [h1]; exact h2
        have hgs := unhide HGS i hi
        have hl12 := unhide HG12 i hi
        rw [← hrD] at hgs hl12
        have hlook : (Instr.lookup 48 (.map (some b)) (.int .i64 s) true).run Try.prog w1 = .ok (.tuple #[.agg #[.int .i64 r.D.sl, .int .i64 r.D.sv, .int .i64 r.D.nc, .string r.D.k, .bool r.D.t, .slice r.ra r.D.S.length r.cap, .int .i64 r.D.nx], .bool true]) w1 := by
          rw [(unhide HM).mp.look_ok s hs]; unfold atV; rw [e9]; rfl
        have hA : Aa w1 r.ra r.D.S := ((unhide HRA).ro s r e9).aa.2.2
        have early : ∀ c2, alC1 (bkB bk) true (decide ((id.size : Int) = r.D.sv)) (plH r.D.S id) (hasB r.D.S bk r.D.S.length) (decide (r.D.S.length = 12)) c2 → (Calls Try.prog 18 #[.map (some b), .int .i64 s, .string id, .string bk] w1 fun e w' => e = .returned (.int .i64 c2) ∧ Below w1.heap.size w1 w') := fun c2 hc => alEarly b s r.D.sl r.D.sv r.D.nc r.D.nx r.D.k r.D.t r.ra r.cap r.D.S true id bk c2 w1 (by omega) hid hbk hlook hA hc
        cases hg : bkB bk with
        | false => exact same 1 (Or.inr (Or.inl ⟨unhide HGT, hg, rfl, rfl⟩)) (early 1 (Or.inl ⟨hg, rfl⟩))
        | true =>
          have put : ∀ L2 c2, auE (eA L i) id bk L i L2 c2 → auP L s id bk L2 c2 := fun L2 c2 h => Or.inr (Or.inr (Or.inr ⟨unhide HGT, hg, i, hi, his, h⟩))
          by_cases hsz2 : (id.size : Int) = r.D.sv
          · by_cases htw : tw r.D.S id bk
            · refine same 3 (put L 3 (Or.inr (Or.inl ⟨by rw [← hrD]; exact hsz2, by rw [← hrD]; exact htw, rfl, rfl⟩))) (early 3 ?_)
              cases hpH : plH r.D.S id with
              | true => exact Or.inr (Or.inr (Or.inr (Or.inl ⟨hg, rfl, decide_eq_true hsz2, rfl, rfl⟩)))
              | false =>
                rcases (tw_iff hgs id bk).1 htw with x | x
                · rw [hpH] at x; cases x
                · exact Or.inr (Or.inr (Or.inr (Or.inr (Or.inl ⟨hg, rfl, decide_eq_true hsz2, rfl, x, rfl⟩))))
            · have hpH : plH r.D.S id = false := Bool.eq_false_iff.2 (fun x => htw ((tw_iff hgs id bk).2 (Or.inl x)))
              have hhB : hasB r.D.S bk r.D.S.length = false := Bool.eq_false_iff.2 (fun x => htw ((tw_iff hgs id bk).2 (Or.inr x)))
              by_cases h12 : r.D.S.length = 12
              · exact same 4 (put L 4 (Or.inr (Or.inr (Or.inl ⟨by rw [← hrD]; exact hsz2, by rw [← hrD]; exact htw, by rw [← hrD]; exact h12, rfl, rfl⟩)))) (early 4 (Or.inr (Or.inr (Or.inr (Or.inr (Or.inr ⟨hg, rfl, decide_eq_true hsz2, hpH, hhB, decide_eq_true h12, rfl⟩))))))
              · refine ⟨L.set i (inS r.D (plP r.D.S id) ⟨id, bk⟩), 0, put _ 0 (Or.inr (Or.inr (Or.inr ⟨by rw [← hrD]; exact hsz2, by rw [← hrD]; exact htw, by rw [← hrD]; exact h12, by rw [hrD], rfl⟩))), (alNew (w.heap.size + 1 + 1) b L.length F B s r id bk w1 (by omega) hs (by omega) hid hbk (unhide HSZ) (unhide HM) (unhide HRA) e9 hg hsz2 hpH hhB h12).mono ?_⟩
                rintro e w' ⟨rfl, r', B', hr', hM', b'⟩
                have hsl : (inS r.D (plP r.D.S id) ⟨id, bk⟩).sl = (eA L i).sl := by rw [← hrD]; rfl
                have hFL := hF.setE hu hi (inS r.D (plP r.D.S id) ⟨id, bk⟩) hsl r' hr'
                rw [his] at hFL
                refine ⟨rfl, b', tab_ok (w.heap.size + 1 + 1) b (L.length + 1) _ B' _ w' (Nat.le_trans (unhide HSZ) b'.size) (by omega) hM' hFL (stE_up hu hi hsl) (fun x hx => ?_) (by rw [List.length_set]; omega)⟩
                rcases (stE_mem hi _ x).1 hx with e | ⟨j, h1, _, h3⟩
                · rw [e, hsl]; exact hwf _ (mem_eA.2 ⟨i, hi, rfl⟩)
                · exact hwf x (mem_eA.2 ⟨j, h1, h3⟩)
          · exact same 1 (put L 1 (Or.inl ⟨by rw [← hrD]; exact hsz2, rfl, rfl⟩)) (early 1 (Or.inr (Or.inr (Or.inl ⟨hg, rfl, decide_eq_false hsz2, rfl⟩))))
    obtain ⟨L2, c2, hP, HI⟩ := unhide ST
    have HP := hide hP
    have HI2 := hide HI
    clear ST hP HI hF hu hwf
    go_wp2_with fail
    refine (unhide HI2).mono ?_
    rintro e w2 ⟨rfl, b2, ht⟩
    have HT := hide ht
    have R2 := (unhide HR).kept b2.size (b2.block _ (by omega))
    have HR2 := hide R2
    have B2 := hide ((unhide B1).trans (b2.mono (by omega)))
    clear b2 ht R2
    go_wp2_with fail
    refine (unhide HT).mono ?_
    rintro e w3 ⟨a3, p3, rfl, hE3, b3⟩
    have R3 := (unhide HR2).below b3
    have r1 := R3.cv
    have r2 := R3.fz
    have B3 := hide ((unhide B2).trans (b3.mono (unhide B2).size))
    have HE3 := hide hE3
    clear b3 hE3 R3
    go_wp2
    refine bodyPost_ret (v := .tuple #[.agg #[.slice a3 L2.length p3], .int .i64 c2]) (by simp [results, Try.results7, go_sem, r1]) rfl ⟨L2, c2, a3, p3, unhide HP, rfl, ?_, (unhide B3).setCell (by simp) _⟩
    exact ((unhide HE3).setLow (by omega)).mono (by omega)
end Go.Proofs.Ythgogkimjhjepaa
