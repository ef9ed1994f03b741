/-
  Contracts: the model's RemoveConfig.
-/
import Derived.Test.YtdebdakfmlnlcaaSow
namespace Go.Proofs.Ytdebdakfmlnlcaa
open Go.ChangeShapes Go.WideShapes Go.ChangeAt Go.RowKit Go.Deep
set_option linter.unusedVariables false
set_option maxRecDepth 100000

/-- a piece of a row of entries as a source -/
theorem er_piece {w : World} {g : Nat} {R : List EnR} (h : ∀ i, i < R.length → Ce w g (i * 7) (rA R i).D (.slice (rA R i).ra (rA R i).D.S.length (rA R i).cap)) (lo n : Nat) (hn : lo + n ≤ R.length) :
    Er w (some ⟨g, lo * 7, none⟩) ((R.drop lo).take n) := by
  by_cases h0 : n = 0
  · subst h0; exact Or.inl (by simp)
  refine Or.inr ⟨g, lo * 7, rfl, fun i hi => ?_⟩
  have hi' : i < n := by simp at hi; omega
  have e : rA ((R.drop lo).take n) i = rA R (lo + i) := by
    have h1 : lo + i < R.length := by omega
    simp [rA, List.getD, List.getElem?_drop, hi']
  rw [e, ← Nat.add_mul]
  exact h (lo + i) (by omega)
theorem rD_map (R : List EnR) (L : List EnD) (h : R.map (·.D) = L) (i : Nat) : (R.take i ++ R.drop (i + 1)).map (·.D) = erE L i := by
  unfold erE; rw [← h, List.map_append, List.map_take, List.map_drop]
theorem er_of {w : World} {a : Option Addr} {n cap : Nat} {base : Nat} {R : List EnR} {v : Value} (hv : v = .slice a n cap) (h : Oe base w v R) (hp : ∀ r ∈ R, Pr w v r) : n = R.length ∧ Ea w a (R.map (·.D)) := by
  subst hv
  exact ⟨h.er.1, h.er.2.2.ea (fun r hr => (hp r hr).aa)⟩
/-- entries are as they were where a box beside them is written -/
theorem ea_box {w : World} {c base : Nat} {a : Option Addr} {n cap : Nat} {R : List EnR} (hB : Bx w c [.slice none 0 0]) (hO : Oe base w (.slice a n cap) R) (hc : c < base) (hP : ∀ r ∈ R, Pr w (.slice a n cap) r) (u : Value) : Ea (w.setCell ⟨c, 0, none⟩ u) a (R.map (·.D)) := by
  have O9 : Oe base (w.setCell ⟨c, 0, none⟩ u) (.slice a n cap) R := by
    refine ⟨hO.1, ?_⟩
    rcases hO.2 with q | ⟨g9, cap9, cur9, q1, q2, q3, q4⟩
    · exact Or.inl q
    · exact Or.inr ⟨g9, cap9, cur9, q1, q2, (Below.heap_setCell w ⟨c, 0, none⟩ u g9 (by show g9 ≠ c; omega)).trans q3, q4⟩
  refine (er_of rfl O9 (fun r hr => ?_)).2
  refine ⟨(hP r hr).1, ?_⟩
  rcases (hP r hr).2 with q | ⟨g, q1, q2, q3⟩
  · exact Or.inl q
  · by_cases hS9 : r.D.S = []
    · exact Or.inl hS9
    refine Or.inr ⟨g, q1, q2.move (by simp) (fun j => set_blk (fun e9 => ?_)), q3⟩
    have h1 := q2.ci 0 (List.length_pos_iff.2 hS9)
    rw [← e9, hB.cv] at h1
    simp at h1
set_option maxHeartbeats 4000000 in
theorem specRm (a : Option Addr) (cap : Nat) (L : List EnD) (s : Int) (w : World) (hG : okE L) (hS : ∀ i, i < L.length → (eA L i).S.length ≤ 1048576) (h : Ea w a L) :
    Calls Try.prog 15 #[.agg #[.slice a L.length cap], .int .i64 s] w fun e w' => ∃ L' c a' cap', rmP L s L' c ∧ e = .returned (.tuple #[.agg #[.slice a' L'.length cap'], .int .i64 c]) ∧ Ea w' a' L' ∧ Below w.heap.size w w' := by
  have HG := hide (fun W (b : Below w.heap.size w W) => specGT a cap L W hG hS (h.below b))
  cases hgt : gtB L with
  | false =>
    have HP : Hid (rmP L s [] 1) := Or.inl ⟨hgt, rfl, rfl⟩
    rw [hgt] at HG
    clear h hG hS hgt
    go_enter Try.func15, Try.ntmps15
    go_wp2_with fail
    refine (unhide HG _ (((Below.refl _ _).alloc (Nat.le_refl _) _).alloc (by simp) _)).mono ?_
    rintro e w1 ⟨rfl, b1⟩
    have R1 : Bx w1 (w.heap.size + 1) [.slice none 0 0] := (Bx.newAt (w.alloc _) _ _ _ (by simp)).below b1
    have B1 := hide ((((Below.refl w.heap.size w).alloc (Nat.le_refl _) _).alloc (by simp) _).trans (b1.mono (by simp; omega)))
    have r1 := R1.cv
    have r2 := R1.fz
    clear R1 b1
    go_wp2
    refine bodyPost_ret (v := .tuple #[.agg #[.slice none 0 0], .int .i64 1]) (by simp [results, Try.results15, go_sem, r1]) rfl ⟨[], 1, none, 0, unhide HP, rfl, Or.inl rfl, ?_⟩
    exact (unhide B1).setCell (by simp) _
  | true =>
    obtain ⟨hL3, hu, hwf⟩ := gt_facts hgt
    rw [hgt] at HG
    have HPN : Hid ((∀ i, i < L.length → (eA L i).sl ≠ s) → rmP L s L 2) := fun q => Or.inr (Or.inl ⟨hgt, q, rfl, rfl⟩)
    have HPY : Hid (∀ i, i < L.length → (eA L i).sl = s → rmP L s (erE L i) 0) := fun i h1 h2 => Or.inr (Or.inr ⟨hgt, i, h1, h2, rfl, rfl⟩)
    have HO := hide (fun W (b : Below w.heap.size w W) => ownTb a cap L W (by omega) (fun i hi => by have := gt_len hgt i hi; omega) (h.below b))
    clear h hG hS hgt hwf hu
    go_enter Try.func15, Try.ntmps15
    go_wp2_with fail
    refine (unhide HG _ (((Below.refl _ _).alloc (Nat.le_refl _) _).alloc (by simp) _)).mono ?_
    rintro e w1 ⟨rfl, b1⟩
    have T1 : Bx w1 w.heap.size [.slice a L.length cap] := ((Bx.new w _ _).alloc _).below b1
    have R1 : Bx w1 (w.heap.size + 1) [.slice none 0 0] := (Bx.newAt (w.alloc _) _ _ _ (by simp)).below b1
    have B1 := hide ((((Below.refl w.heap.size w).alloc (Nat.le_refl _) _).alloc (by simp) _).trans (b1.mono (by simp; omega)))
    have HR := hide R1
    have HT := hide T1
    have t1 := T1.cv
    have hsz1 := R1.lt
    clear R1 T1 b1
    go_wp2_with fail
    refine (unhide HO _ (unhide B1)).mono ?_
    rintro e w2 ⟨v, R, rfl, hO2, hR2, hP2, b2⟩
    obtain ⟨a2, c2, e2, hc2, hf2⟩ := hO2.form
    have hRL : R.length = L.length := by have := congrArg List.length hR2; simpa using this
    rw [hRL] at e2 hc2
    subst e2
    have hz2 := b2.size
    -- the copy in its box
    obtain ⟨w3, hw3⟩ : ∃ w3, w3 = w2.setCell ⟨w.heap.size, 0, none⟩ (.slice a2 L.length c2) := ⟨_, rfl⟩
    have T3 : Bx w3 w.heap.size [.slice a2 L.length c2] := by rw [hw3]; exact ((unhide HT).below b2).set (i := 0) (by simp)
    have R3 : Bx w3 (w.heap.size + 1) [.slice none 0 0] := by rw [hw3]; exact ((unhide HR).below b2).other (by omega)
    have B3 : Below w.heap.size w w3 := by rw [hw3]; exact ((unhide B1).trans (b2.mono (unhide B1).size)).setCell (Nat.le_refl _) _
    have hgo : ∀ q, w1.heap.size ≤ q → w3.heap[q]? = w2.heap[q]? := fun q hq => by rw [hw3]; exact Below.heap_setCell w2 ⟨w.heap.size, 0, none⟩ _ q (by show q ≠ w.heap.size; omega)
    have O3 : Oe (w1.heap.size + 1 + 1) w3 (.slice a2 L.length c2) R := by
      refine ⟨hO2.1, ?_⟩
      rcases hO2.2 with q | ⟨g9, cap9, cur9, q1, q2, q3, q4⟩
      · exact Or.inl q
      · exact Or.inr ⟨g9, cap9, cur9, q1, q2, (hgo g9 (by omega)).trans q3, q4⟩
    have P3 : ∀ r ∈ R, Pr w3 (.slice a2 L.length c2) r := fun r hr => by
      refine ⟨(hP2 r hr).1, ?_⟩
      rcases (hP2 r hr).2 with q | ⟨g, q1, q2, q3⟩
      · exact Or.inl q
      · by_cases hS9 : r.D.S = []
        · exact Or.inl hS9
        refine Or.inr ⟨g, q1, q2.move (by rw [hw3]; simp) (fun j => ?_), q3⟩
        rw [hw3]
        refine set_blk (fun e9 => ?_)
        have h1 := q2.ci 0 (List.length_pos_iff.2 hS9)
        rw [← e9, ((unhide HT).below b2).cv] at h1
        simp at h1
    have hEa := er_of rfl O3 P3
    rw [hR2] at hEa
    have HAT := hide (fun W (b : Below w3.heap.size w3 W) => atTb a2 c2 L s W (by omega) (hEa.2.below b))
    have HRL := hide hRL
    have HF := hide (And.intro O3 (And.intro P3 (And.intro hR2 (And.intro T3 (And.intro R3 B3)))))
    have t2c := ((unhide HT).below b2).cv
    have t2f := ((unhide HT).below b2).fz
    have t3 := T3.cv
    have hz3 : w3.heap.size = w2.heap.size := by rw [hw3]; simp
    have HW3 := hide hw3
    clear hO2 hP2 hR2 b2 O3 P3 T3 R3 B3 hEa hgo t1 hf2
    clear hRL
    subst hw3
    go_wp2_with fail
    refine (unhide HAT _ (Below.refl _ _)).mono ?_
    rintro e w4 ⟨j, rfl, hj, b4⟩
    generalize w2.setCell ⟨w.heap.size, 0, none⟩ (.slice a2 L.length c2) = w3 at *
    obtain ⟨O3, P3, hR3m, T3, R3, B3⟩ := unhide HF
    have T4 := T3.below b4
    have R4 := R3.below b4
    have O4 := O3.below b4
    have P4 : ∀ r ∈ R, Pr w4 (.slice a2 L.length c2) r := fun r hr => (P3 r hr).below b4
    have B4 := B3.trans (b4.mono B3.size)
    have hz4 := R4.lt
    clear O3 P3 T3 R3 B3 HF b4 t2c t2f t3 HAT HG HO HR HT B1 hz2 hz3 HW3
    rcases hj with ⟨rfl, hno⟩ | ⟨i, hi, his, rfl⟩
    · have HP := hide (unhide HPN hno)
      have FIN : Hid (Ea (w4.setCell ⟨w.heap.size + 1, 0, none⟩ (.slice a2 L.length c2)) a2 L ∧ Below w.heap.size w (w4.setCell ⟨w.heap.size + 1, 0, none⟩ (.slice a2 L.length c2))) := by
        refine ⟨?_, B4.setCell (by show w.heap.size ≤ w.heap.size + 1; omega) _⟩
        have := ea_box R4 O4 (by omega) P4 (.slice a2 L.length c2)
        rw [hR3m] at this
        exact this
      have t1 := T4.cv
      have r1 := R4.cv
      have r2 := R4.fz
      have htl := T4.lt
      clear hno O4 P4 T4 R4 B4
      go_wp2
      refine bodyPost_ret (v := .tuple #[.agg #[.slice a2 L.length c2], .int .i64 2]) (by simp [results, Try.results15, go_sem, r1]) rfl ⟨L, 2, a2, c2, unhide HP, rfl, unhide FIN⟩
    · have HP := hide (unhide HPY i hi his)
      have t1 := T4.cv
      have htl := T4.lt
      have r1 := R4.cv
      have r2 := R4.fz
      have hi3 : (i : Int) < (L.length : Int) := by omega
      have hRL := unhide HRL
      obtain ⟨a2', c2', e2', _, hf⟩ := O4.form
      injection e2' with q1 q2 q3
      subst q1 q3
      rcases hf with hf | ⟨g, hga, hgb, hgl, hgf, hce⟩
      · rw [hf] at hRL; simp at hRL; omega
      subst hga
      clear hRL q2
      have hic : (i : Int) ≤ (c2 : Int) := by omega
      have hw : IntKind.i64.wrap ((i : Int) + 1) = ((i + 1 : Nat) : Int) := by rw [wraps_i64 _ (by omega) (by omega)]; omega
      have hw2 : ((i + 1 : Nat) : Int) ≤ (L.length : Int) := by omega
      have hq1 : (0 : Int) ≤ (i : Int) + 1 := by omega
      have hq2 : (i : Int) + 1 ≤ (L.length : Int) := by omega
      have hRL := unhide HRL
      obtain ⟨sa, hsa⟩ : ∃ sa, sa = (if c2 = i + 1 then some (⟨g, 0, none⟩ : Addr) else some ⟨g, (i + 1) * 7, none⟩) := ⟨_, rfl⟩
      obtain ⟨v5, w5, hrun5, hO5, hg5, hv5⟩ := appE (w4.drew.alloc (.cells #[] 50)) 29 w4.heap.size (.slice (some ⟨w4.heap.size, 0, none⟩) 0 0) [] (oe_lit0 w4.drew w4.heap.size (Nat.le_refl _)) (some ⟨g, 0, none⟩) c2 (R.take i) (by
        have h9 := (er_piece hce 0 i (by omega)).below (((Below.refl w4.heap.size w4).drew).alloc (Nat.le_refl _) (.cells #[] 50))
        rw [Nat.zero_mul, List.drop_zero] at h9
        exact h9.sc) (by simp; omega) (by show w4.heap.size ≤ (w4.drew.alloc _).heap.size; simp)
      have hl5 : (R.take i).length = i := by rw [List.length_take]; omega
      have hl6 : (R.drop (i + 1)).length = L.length - (i + 1) := by rw [List.length_drop, hRL]
      rw [hl5] at hrun5
      rw [List.nil_append] at hO5
      have A5 : Below w4.heap.size w4 w5 := (((Below.refl w4.heap.size w4).drew).alloc (Nat.le_refl _) (.cells #[] 50)).trans (grown_below hg5 (by show w4.heap.size ≤ (w4.drew.alloc _).heap.size; simp) (fun q e => by simp [Value.ownBlock] at e; omega))
      have P5 : ∀ r ∈ R, Pr w5 v5 r := fun r hr => by
        refine Pr.grown (w := w4.drew.alloc (.cells #[] 50)) (v := .slice (some ⟨w4.heap.size, 0, none⟩) 0 0) ?_ hg5 hv5
        refine ⟨(P4 r hr).1, (P4 r hr).2.imp id fun ⟨g', q1, q2, q3⟩ => ⟨g', q1, q2.below (((Below.refl w4.heap.size w4).drew).alloc (Nat.le_refl _) _), fun e => ?_⟩⟩
        simp [Value.ownBlock] at e
        have := q2.lt
        omega
      have hce5 : ∀ i, i < R.length → Ce w5 g (i * 7) (rA R i).D (.slice (rA R i).ra (rA R i).D.S.length (rA R i).cap) := fun q hq => (hce q hq).below A5
      obtain ⟨v6, w6, hrun6, hO6, hg6, hv6⟩ := appE w5 29 w4.heap.size v5 (R.take i) hO5 sa (c2 - (i + 1)) (R.drop (i + 1)) (by
        by_cases c9 : c2 = i + 1
        · refine Or.inl ⟨by rw [hl6]; omega, ?_⟩
          rw [List.drop_eq_nil_of_le (by omega)]
          rfl
        · rw [hsa, if_neg c9]
          have h9 := er_piece hce5 (i + 1) (R.length - (i + 1)) (by omega)
          rw [List.take_of_length_le (by rw [List.length_drop]; exact Nat.le_refl _)] at h9
          exact h9.sc) (by rw [hl5, hl6]; omega) A5.size
      rw [hl6, hsa] at hrun6
      have A6 : Below w4.heap.size w5 w6 := grown_below hg6 A5.size (fun q e => (World.ownsRow.lt hO5 q e).1)
      have P6 : ∀ r ∈ R.take i ++ R.drop (i + 1), Pr w6 v6 r := fun r hr => Pr.grown (P5 r (by
        rcases List.mem_append.1 hr with h | h
        · exact List.mem_of_mem_take h
        · exact List.mem_of_mem_drop h)) hg6 hv6
      have A46 := A5.trans A6
      have X5 := hide (T4.below A5)
      have X6 := hide (T4.below A46)
      have Y6 := R4.below A46
      obtain ⟨a6, c6, e6, _, _⟩ := hO6.form
      have hl7 : (R.take i ++ R.drop (i + 1)).length = (erE L i).length := by rw [← rD_map R L hR3m i, List.length_map]
      rw [hl7] at e6
      subst e6
      have FIN : Hid (Ea (w6.setCell ⟨w.heap.size + 1, 0, none⟩ (.slice a6 (erE L i).length c6)) a6 (erE L i) ∧ Below w.heap.size w (w6.setCell ⟨w.heap.size + 1, 0, none⟩ (.slice a6 (erE L i).length c6))) := by
        refine ⟨?_, (B4.trans (A46.mono B4.size)).setCell (by show w.heap.size ≤ w.heap.size + 1; omega) _⟩
        have := ea_box Y6 hO6 (by omega) P6 (.slice a6 (erE L i).length c6)
        rw [rD_map R L hR3m i] at this
        exact this
      have RUN5 := hide hrun5
      have RUN6 := hide hrun6
      have y6 := Y6.cv
      have y7 := Y6.fz
      have hyl := Y6.lt
      generalize erE L i = L9 at *
      clear hrun5 hrun6 hO5 hO6 hg5 hg6 hv5 hv6 A5 A6 A46 P5 P6 P4 O4 B4 hce hce5 hl5 hl6 hl7 hRL hsa R4 Y6 r1 r2 hgf hgl hgb his
      go_upto_region 7 with fail
      -- REGION
      refine wp_region_noPanic ?_
      refine wp_region_held_drew (S := fun V => Bx V w.heap.size [.slice (some ⟨g, 0, none⟩) L.length c2]) (by kernel_rfl) T4.drew (fun hHeld => ?_)
      refine wpAnyH_take (i := 1) (v := ?_) rfl (by kernel_rfl) (by kernel_rfl) (by kernel_rfl) (fun _ _ _ h => h) (Or.inl ⟨by rfl, ?_⟩) hHeld ?_
      rotate_left
      · intro V hSw; have y1 := hSw.cv; go_simp; rfl
      simp only [Act.put, List.getElem_toArray, List.getElem_cons_succ, List.getElem_cons_zero, List.setIfInBounds_toArray, List.set_cons_zero, List.set_cons_succ]
      refine wpAnyH_take (i := 2) (v := ?_) rfl (by kernel_rfl) (by kernel_rfl) (by kernel_rfl) (fun _ _ _ h => h) (Or.inl ⟨by rfl, ?_⟩) hHeld ?_
      rotate_left
      · intro V hSw; have y1 := hSw.cv; go_simp; rfl
      simp only [Act.put, List.getElem_toArray, List.getElem_cons_succ, List.getElem_cons_zero, List.setIfInBounds_toArray, List.set_cons_zero, List.set_cons_succ]
      refine wpAnyH_take (i := 3) (v := ?_) rfl (by kernel_rfl) (by kernel_rfl) (by kernel_rfl) (fun _ _ _ h => h) (Or.inl ⟨by rfl, ?_⟩) hHeld ?_
      rotate_left
      · intro V hSw; have y1 := hSw.cv; go_simp; rfl
      simp only [Act.put, List.getElem_toArray, List.getElem_cons_succ, List.getElem_cons_zero, List.setIfInBounds_toArray, List.set_cons_zero, List.set_cons_succ]
      refine wpAnyH_take (i := 4) (v := ?_) rfl (by kernel_rfl) (by kernel_rfl) (by kernel_rfl) (fun _ _ _ h => h) (Or.inl ⟨by rfl, ?_⟩) hHeld ?_
      rotate_left
      · intro V hSw; have y1 := hSw.cv; go_simp; rfl
      simp only [Act.put, List.getElem_toArray, List.getElem_cons_succ, List.getElem_cons_zero, List.setIfInBounds_toArray, List.set_cons_zero, List.set_cons_succ]
      refine wpAnyH_take (i := 6) (v := ?_) rfl (by kernel_rfl) (by kernel_rfl) (by kernel_rfl) (fun _ _ _ h => h) (Or.inl ⟨by rfl, ?_⟩) hHeld ?_
      rotate_left
      · intro V hSw; have y1 := hSw.cv; go_simp; rfl
      simp only [Act.put, List.getElem_toArray, List.getElem_cons_succ, List.getElem_cons_zero, List.setIfInBounds_toArray, List.set_cons_zero, List.set_cons_succ]
      refine wpAnyH_take (i := 7) (v := ?_) rfl (by kernel_rfl) (by kernel_rfl) (by kernel_rfl) (fun _ _ _ h => h) (Or.inl ⟨by rfl, ?_⟩) hHeld ?_
      rotate_left
      · intro V hSw; have y1 := hSw.cv; go_simp; rfl
      simp only [Act.put, List.getElem_toArray, List.getElem_cons_succ, List.getElem_cons_zero, List.setIfInBounds_toArray, List.set_cons_zero, List.set_cons_succ]
      refine wpAnyH_take (i := 8) (v := ?_) rfl (by kernel_rfl) (by kernel_rfl) (by kernel_rfl) (fun _ _ _ h => h) (Or.inl ⟨by rfl, ?_⟩) hHeld ?_
      rotate_left
      · intro V hSw; have y1 := hSw.cv; go_simp; rfl
      simp only [Act.put, List.getElem_toArray, List.getElem_cons_succ, List.getElem_cons_zero, List.setIfInBounds_toArray, List.set_cons_zero, List.set_cons_succ]
      refine wpAnyH_take (i := 9) (v := ?_) rfl (by kernel_rfl) (by kernel_rfl) (by kernel_rfl) (fun _ _ _ h => h) (Or.inl ⟨by rfl, ?_⟩) hHeld ?_
      rotate_left
      · intro V hSw; have y1 := hSw.cv; go_simp; rfl
      simp only [Act.put, List.getElem_toArray, List.getElem_cons_succ, List.getElem_cons_zero, List.setIfInBounds_toArray, List.set_cons_zero, List.set_cons_succ]
      refine wpAnyH_take (i := 10) (v := ?_) rfl (by kernel_rfl) (by kernel_rfl) (by kernel_rfl) (fun _ _ _ h => h) (Or.inl ⟨by rfl, ?_⟩) hHeld ?_
      rotate_left
      · intro V hSw; have y1 := hSw.cv; go_simp; rfl
      simp only [Act.put, List.getElem_toArray, List.getElem_cons_succ, List.getElem_cons_zero, List.setIfInBounds_toArray, List.set_cons_zero, List.set_cons_succ]
      refine wpAnyH_ready (rs := [0]) (by kernel_rfl) (by simp) ?_
      refine AllReadyH.cons rfl (fun K hK => ?_) AllReadyH.nil
      go_simp
      refine hK.out _ _ (hHeld.alloc _) (fun hHeld => ?_)
      clear hK K
      try simp only [Act.put, List.getElem_toArray, List.getElem_cons_succ, List.getElem_cons_zero, List.setIfInBounds_toArray, List.set_cons_zero, List.set_cons_succ]
      refine wpAnyH_ready (rs := [5]) (by kernel_rfl) (by simp) ?_
      refine AllReadyH.cons rfl (fun K hK => ?_) AllReadyH.nil
      refine stp_app rfl _ _ 29 rfl _ _ _ _ rfl rfl (unhide RUN5) ?_
      refine hK.out _ _ (unhide X5) (fun hHeld => ?_)
      clear hK K
      try simp only [Act.put, List.getElem_toArray, List.getElem_cons_succ, List.getElem_cons_zero, List.setIfInBounds_toArray, List.set_cons_zero, List.set_cons_succ]
      refine wpAnyH_ready (rs := [11]) (by kernel_rfl) (by simp) ?_
      refine AllReadyH.cons rfl (fun K hK => ?_) AllReadyH.nil
      refine stp_app rfl _ _ 29 rfl _ _ _ _ rfl rfl (unhide RUN6) ?_
      refine hK.out _ _ (unhide X6) (fun hHeld => ?_)
      clear hK K
      try simp only [Act.put, List.getElem_toArray, List.getElem_cons_succ, List.getElem_cons_zero, List.setIfInBounds_toArray, List.set_cons_zero, List.set_cons_succ]
      refine wpAnyH_take (i := 12) (v := ?_) rfl (by kernel_rfl) (by kernel_rfl) (by kernel_rfl) (fun _ _ _ h => h) (Or.inl ⟨by rfl, ?_⟩) hHeld ?_
      rotate_left
      · intro V hSw; have y1 := hSw.cv; go_simp; rfl
      simp only [Act.put, List.getElem_toArray, List.getElem_cons_succ, List.getElem_cons_zero, List.setIfInBounds_toArray, List.set_cons_zero, List.set_cons_succ]
      refine wpAnyH_ready (rs := [13]) (by kernel_rfl) (by simp) ?_
      refine AllReadyH.cons rfl (fun K hK => ?_) AllReadyH.nil
      go_simp
      refine hK.out _ _ (hHeld.other (by omega)) (fun hHeld => ?_)
      clear hK K
      try simp only [Act.put, List.getElem_toArray, List.getElem_cons_succ, List.getElem_cons_zero, List.setIfInBounds_toArray, List.set_cons_zero, List.set_cons_succ]
      refine wpAnyH_ready (rs := [14]) (by kernel_rfl) (by simp) ?_
      refine AllReadyH.cons rfl (fun K hK => ?_) AllReadyH.nil
      go_simp
      refine hK.out _ _ (hHeld) (fun hHeld => ?_)
      clear hK K
      try simp only [Act.put, List.getElem_toArray, List.getElem_cons_succ, List.getElem_cons_zero, List.setIfInBounds_toArray, List.set_cons_zero, List.set_cons_succ]
      refine wpAnyH_done (by kernel_rfl) ?_ _
      refine NoPanic.normal ?_
      clear hHeld
      -- END
      go_wp2
      all_goals
        refine bodyPost_ret (v := .tuple #[.agg #[.slice a6 L9.length c6], .int .i64 0]) (by simp [results, Try.results15, go_sem, y6]) rfl ?_
        first | exact ⟨L9, 0, a6, c6, unhide HP, rfl, unhide FIN⟩ | exact ⟨L9, 0, unhide HP, a6, ⟨c6, rfl⟩, unhide FIN⟩
end Go.Proofs.Ytdebdakfmlnlcaa
