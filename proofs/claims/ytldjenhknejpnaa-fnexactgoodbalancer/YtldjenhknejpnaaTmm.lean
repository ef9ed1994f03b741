/-
  Tables marked by the laws, walked.
-/
import Derived.Test.YtldjenhknejpnaaTml
namespace Go.Proofs.Ytldjenhknejpnaa
open Go.ChangeShapes Go.WideShapes Go.ChangeAt Go.RowKit Go.Deep
set_option linter.unusedVariables false
set_option maxRecDepth 100000

theorem Eo.mk0 {base : Nat} {w : World} {g : Nat} {B : Nat → Nat} {L : List EnD} (h : Eo base w g B L) (k0 : Nat) : ∃ ra cp, Mk base w g B ra cp L k0 0 ∧ ∀ j, j < L.length → (eA L j).S.length ≤ cp j := by
  have each : ∀ i, i < L.length → ∃ x : Option Addr × Nat, Ce w g (i * 7) (eA L i) (.slice x.1 (eA L i).S.length x.2) ∧ (eA L i).S.length ≤ x.2 ∧ ((eA L i).S = [] ∨ x.1 = some ⟨B i, 0, none⟩ ∧ B i ≠ g ∧ Ao base w (B i) (eA L i).S) := fun i hi => by
    obtain ⟨ra, cap, h1, h2, h3⟩ := h.en i hi
    exact ⟨(ra, cap), h1, h2, h3⟩
  obtain ⟨X, hX⟩ := @choose_lt (Option Addr × Nat) ⟨(none, 0)⟩ _ _ each
  refine ⟨fun i => (X i).1, fun i => (X i).2, ⟨?_, fun j hj => ?_⟩, fun j hj => (hX j hj).2.1⟩
  · have e := ce_rg (L := Lm k0 L 0) (V := fun j => .slice (X j).1 (eA L j).S.length (X j).2) h.lt h.fz (fun i hi => by rw [Lm_len] at hi; rw [Lm_zero k0 L i hi]; exact (hX i hi).1)
    rw [Lm_len] at e
    exact e
  · rw [Lm_zero k0 L j hj]; exact (hX j hj).2.2
theorem Mk.eo {base : Nat} {w : World} {g : Nat} {B : Nat → Nat} {ra : Nat → Option Addr} {cp : Nat → Nat} {L : List EnD} {k0 : Nat} (hge : base ≤ g) (hne : ∀ i j, i < j → j < L.length → (eA L i).S ≠ [] → (eA L j).S ≠ [] → B i ≠ B j) (hcp : ∀ j, j < L.length → (eA L j).S.length ≤ cp j) (h : Mk base w g B ra cp L k0 L.length) : Eo base w g B (Lm k0 L L.length) := by
  have hnil : ∀ j, j < L.length → ((eA (Lm k0 L L.length) j).S = [] ↔ (eA L j).S = []) := fun j hj => by
    rw [← List.length_eq_zero_iff, Lm_S k0 L L.length j hj, List.length_eq_zero_iff]
  refine ⟨hge, h.rg.lt, h.rg.fz, fun i hi => ?_, fun i j hij hj h1 h2 => ?_⟩
  · rw [Lm_len] at hi
    refine ⟨ra i, cp i, ?_, by rw [Lm_S k0 L L.length i hi]; exact hcp i hi, ?_⟩
    · rw [Lm_S k0 L L.length i hi]
      exact rg_ce h.rg i (by omega)
    · rcases h.ro i hi with q | q
      · exact Or.inl ((hnil i hi).2 q)
      · exact Or.inr q
  · rw [Lm_len] at hj
    exact hne i j hij hj (fun q => h1 ((hnil i (by omega)).2 q)) (fun q => h2 ((hnil j hj).2 q))
set_option maxHeartbeats 8000000 in
theorem markEns (base g cap : Nat) (B : Nat → Nat) (L : List EnD) (k0 : Nat) (w : World) (hn : L.length ≤ 1048576) (hS : ∀ i, i < L.length → (eA L i).S.length ≤ 1048576) (hk1 : 1 ≤ k0) (hkb : ∀ i, i ≤ L.length → kA k0 L i ≤ 90000000) (hbs : base ≤ w.heap.size) (h : Eo base w g B L) :
    Calls Try.prog 61 #[.slice (some ⟨g, 0, none⟩) L.length cap, .int .i64 k0] w fun e w' => e = .returned (.int .i64 (kA k0 L L.length : Int)) ∧ Eo base w' g B (Lm k0 L L.length) ∧ Kq (Tb g B L) w w' := by
  obtain ⟨ra, cp, hM0, hcp⟩ := h.mk0 k0
  have HM0 := hide hM0
  have HNE := hide h.ne
  have hge := h.ge
  have HCP := hide hcp
  have HS := hide hS
  have HKB := hide hkb
  clear hM0 h hcp hS hkb
  go_enter Try.func61, Try.ntmps61
  go_wp2
  go_loopw [1, 5] (fun kv iv wr => ∃ i : Nat, i ≤ L.length ∧ iv = .int .i64 i ∧ kv = .int .i64 (kA k0 L i : Int) ∧ Mk base wr g B ra cp L k0 i ∧ Kq (Tb g B L) w wr) (fun _ iv _ => L.length - (intOf iv).toNat)
  case atStart => exact ⟨0, Nat.zero_le _, rfl, rfl, unhide HM0, Kq.refl _ _⟩
  case round =>
    obtain ⟨i, hi, rfl, rfl, hM, hK⟩ := hrel
    clear HM0
    by_cases hlt : i < L.length
    · have hnk : (i : Int) < (L.length : Int) := by omega
      have hkle := unhide HKB i (by omega)
      have hk1' : 1 ≤ kA k0 L i := by
        clear hM hK hkle hlt hi hnk
        induction i with
        | zero => exact hk1
        | succ i ih => show 1 ≤ kA k0 L i + 6 + 2 * (eA L i).S.length; omega
      have hSi := unhide HS i hlt
      have KST : Hid (kA k0 L (i + 1) = kA k0 L i + 6 + 2 * (eA L i).S.length) := rfl
      have c := rg_ce hM.rg i (by omega)
      rw [Lm_at k0 L i i hlt, if_neg (Nat.lt_irrefl i)] at c
      have RST := hide (fun (W : World) (f : Nat → Value) (hG : Rg W g (L.length * 7) f) hf => rg_step (w := W) (f := f) (V := fun j => .slice (ra j) (eA L j).S.length (cp j)) (k0 := k0) hlt hG hf)
      have ROW := hM.ro i hlt
      rw [Lm_at k0 L i i hlt, if_neg (Nat.lt_irrefl i)] at ROW
      have HROW := hide ROW
      have HM := hide hM
      have HK := hide hK
      obtain ⟨c0, c1, c2, c3, c4, c5, c6⟩ := c
      have hfz := hM.rg.fz
      have hgl := hM.rg.lt
      obtain ⟨k, hkk⟩ : ∃ k : Nat, k = kA k0 L i := ⟨_, rfl⟩
      rw [← hkk] at KST RST hkle hk1' ⊢
      have HKK := hide hkk
      clear ROW hM hK hkk
      have M3 := hide (markText_any (k + 3) (by omega) (by omega))
      have G0 := hide ((((unhide HM).rg.set (i * 7) (by omega) (.int .i64 (k : Int))).set (i * 7 + 1) (by omega) (.int .i64 ((k : Int) + 1))).set (i * 7 + 2) (by omega) (.int .i64 ((k : Int) + 1 + 1)))
      have K0 := hide ((((unhide HK).set (i := i * 7) (u := .int .i64 (k : Int)) (show Tb g B L g from Or.inl rfl)).set (i := i * 7 + 1) (u := .int .i64 ((k : Int) + 1)) (show Tb g B L g from Or.inl rfl)).set (i := i * 7 + 2) (u := .int .i64 ((k : Int) + 1 + 1)) (show Tb g B L g from Or.inl rfl))
      have Q0 : Hid (Kq (· = g) wr (((wr.setCell ⟨g, i * 7, none⟩ (.int .i64 (k : Int))).setCell ⟨g, i * 7 + 1, none⟩ (.int .i64 ((k : Int) + 1))).setCell ⟨g, i * 7 + 2, none⟩ (.int .i64 ((k : Int) + 1 + 1)))) := (((Kq.refl (fun q => q = g) wr).set (P := fun q => q = g) rfl).set (P := fun q => q = g) rfl).set (P := fun q => q = g) rfl
      go_wp2_with fail
      refine (unhide M3 _).mono ?_
      rintro e w1 ⟨rfl, b1⟩
      have G1 := (unhide G0).below b1
      have d3 := G1.c (i * 7 + 3) (by omega)
      have d4 := G1.c (i * 7 + 4) (by omega)
      have d5 := G1.c (i * 7 + 5) (by omega)
      have hf1 := G1.fz
      have hgl1 := G1.lt
      have s5 : w1.cell? ⟨g, i * 7 + 5, none⟩ = some (.slice (ra i) (eA L i).S.length (cp i)) := by
        rw [d5, if_neg (by omega), if_neg (by omega), if_neg (by omega)]
        unfold rf enF
        rw [show (i * 7 + 5) / 7 = i by omega, show (i * 7 + 5) % 7 = 5 by omega]
        rfl
      clear d5
      generalize hm3 : mtT (k + 3) = m3 at *
      have HM3 := hide hm3
      clear hm3
      have HG1 := hide G1
      have tv : ((((k : Int) + 1 + 1 + 1 + 1) % 3 == 0) : Bool) = decide ((k + 4) % 3 = 0) := by
        by_cases e9 : (k + 4) % 3 = 0
        · rw [decide_eq_true e9]; exact beq_iff_eq.2 (by omega)
        · rw [decide_eq_false e9]; exact beq_eq_false_iff_ne.2 (by omega)
      have HTV := hide tv
      generalize htb : ((((k : Int) + 1 + 1 + 1 + 1) % 3 == 0) : Bool) = tb at *
      clear tv
      have Q1 : Kq (fun q => q = g ∨ ((eA L i).S ≠ [] ∧ q = B i)) wr ((w1.setCell ⟨g, i * 7 + 3, none⟩ (.string m3)).setCell ⟨g, i * 7 + 4, none⟩ (.bool tb)) := ((((unhide Q0).imp (fun q h => Or.inl h)).trans (Kq.of b1)).set (Or.inl rfl)).set (Or.inl rfl)
      have G2 := hide ((G1.set (i * 7 + 3) (by omega) (.string m3)).set (i * 7 + 4) (by omega) (.bool tb))
      have MA : Hid (Calls Try.prog 76 #[.slice (ra i) (eA L i).S.length (cp i), .int .i64 ((k + 5 : Nat) : Int)] ((w1.setCell ⟨g, i * 7 + 3, none⟩ (.string m3)).setCell ⟨g, i * 7 + 4, none⟩ (.bool tb)) fun e w' =>
          e = .returned (.int .i64 ((k + 5 + 2 * (eA L i).S.length : Nat) : Int)) ∧ ((eA L i).S = [] ∨ ra i = some ⟨B i, 0, none⟩ ∧ B i ≠ g ∧ Ao base w' (B i) (mkA (k + 5) (eA L i).S.length)) ∧ Kq (fun q => (eA L i).S ≠ [] ∧ q = B i) ((w1.setCell ⟨g, i * 7 + 3, none⟩ (.string m3)).setCell ⟨g, i * 7 + 4, none⟩ (.bool tb)) w') := by
        by_cases hn0 : (eA L i).S = []
        · rw [hn0]
          refine (markAls0 (ra i) (cp i) (k + 5) _).mono ?_
          rintro e w' ⟨rfl, rfl⟩
          exact ⟨rfl, Or.inl rfl, Kq.refl _ _⟩
        · rcases unhide HROW with q | ⟨q1, q2, q3⟩
          · exact absurd q hn0
          rw [q1]
          have q4 : Ao base ((w1.setCell ⟨g, i * 7 + 3, none⟩ (.string m3)).setCell ⟨g, i * 7 + 4, none⟩ (.bool tb)) (B i) (eA L i).S := q3.kq (P := fun q => q = g) (((((unhide Q0)).trans (Kq.of b1)).set (P := fun q => q = g) rfl).set (P := fun q => q = g) rfl) q2
          refine (markAls base (B i) (cp i) (eA L i).S (k + 5) _ hSi (by omega) (by omega) q4).mono ?_
          rintro e w' ⟨rfl, q5, q6⟩
          exact ⟨rfl, Or.inr ⟨rfl, q2, q5⟩, q6.imp (fun q h => ⟨hn0, h⟩)⟩
      have hgn : Hid (¬ ((eA L i).S ≠ [] ∧ g = B i)) := fun ⟨h1, h2⟩ => by
        rcases unhide HROW with q | ⟨_, q2, _⟩
        · exact h1 q
        · exact q2 h2.symm
      have HQ1 := hide Q1
      have HTB := hide htb
      clear G1 Q1 b1 Q0 G0 K0 htb HG1
      go_wp2_with fail
      rw [unhide HTB]
      refine (unhide MA).mono ?_
      rintro e w2 ⟨rfl, hr2, q2⟩
      have G3 := (unhide G2).kq q2 (unhide hgn)
      have d6 := G3.c (i * 7 + 6) (by omega)
      have hf2 := G3.fz
      have hgl2 := G3.lt
      have FIN : Hid (Mk base (w2.setCell ⟨g, i * 7 + 6, none⟩ (.int .i64 ((k + 5 + 2 * (eA L i).S.length : Nat) : Int))) g B ra cp L k0 (i + 1) ∧ Kq (Tb g B L) w (w2.setCell ⟨g, i * 7 + 6, none⟩ (.int .i64 ((k + 5 + 2 * (eA L i).S.length : Nat) : Int)))) := by
        have QF : Kq (fun q => q = g ∨ ((eA L i).S ≠ [] ∧ q = B i)) wr (w2.setCell ⟨g, i * 7 + 6, none⟩ (.int .i64 ((k + 5 + 2 * (eA L i).S.length : Nat) : Int))) := ((unhide HQ1).trans (q2.imp (fun q h => Or.inr h))).set (Or.inl rfl)
        have GF := G3.set (i * 7 + 6) (by omega) (.int .i64 ((k + 5 + 2 * (eA L i).S.length : Nat) : Int))
        refine ⟨⟨unhide RST _ _ GF (fun o ho => ?_), fun j hj => ?_⟩, (unhide HK).trans (QF.imp (fun q h => h.imp id (fun ⟨h1, h2⟩ => ⟨i, hlt, h1, h2⟩)))⟩
        · rw [← unhide HTV]
          rfl
        · by_cases hji : j = i
          · subst hji
            rcases hr2 with q | ⟨p1, p2, p3⟩
            · exact Or.inl q
            · refine Or.inr ⟨p1, p2, ?_⟩
              rw [Lm_at k0 L (j + 1) j hlt, if_pos (Nat.lt_succ_self j)]
              have p4 := (p3.kq (P := fun q => q = g) ((Kq.refl (fun q => q = g) w2).set (P := fun q => q = g) (i := j * 7 + 6) (u := .int .i64 ((k + 5 + 2 * (eA L j).S.length : Nat) : Int)) rfl) p2)
              rw [unhide HKK] at p4 ⊢
              exact p4
          · rcases (unhide HM).ro j hj with q | ⟨p1, p2, p3⟩
            · exact Or.inl q
            · by_cases hSj : (eA L j).S = []
              · exact Or.inl hSj
              refine Or.inr ⟨p1, p2, ?_⟩
              have e9 : eA (Lm k0 L (i + 1)) j = eA (Lm k0 L i) j := by
                rw [Lm_at k0 L (i + 1) j hj, Lm_at k0 L i j hj]
                by_cases h9 : j < i
                · rw [if_pos h9, if_pos (by omega)]
                · rw [if_neg h9, if_neg (by omega)]
              rw [e9]
              refine p3.kq QF ?_
              rintro (h9 | ⟨h9, h10⟩)
              · exact p2 h9
              · rcases Nat.lt_or_gt_of_ne hji with h11 | h11
                · exact unhide HNE j i h11 hlt hSj h9 h10
                · exact unhide HNE i j h11 hj h9 hSj h10.symm
      clear G3 hr2 q2
      go_wp2
      exact ⟨⟨i + 1, by omega, by go_num, by rw [unhide KST]; go_num, unhide FIN⟩, by simp [intOf]; omega⟩
    · obtain rfl : i = L.length := by omega
      have F := hide (And.intro (hM.eo hge (unhide HNE) (unhide HCP)) hK)
      clear hM hK
      go_wp2
      go_ret
      exact ⟨rfl, unhide F⟩
theorem kA_mono (k0 : Nat) (L : List EnD) : ∀ {i j : Nat}, i ≤ j → kA k0 L i ≤ kA k0 L j := by
  intro i j h
  induction h with
  | refl => exact Nat.le_refl _
  | step _ ih => refine Nat.le_trans ih ?_; show _ ≤ kA k0 L _ + 6 + 2 * _; omega
theorem Eo.tb {base : Nat} {w : World} {g : Nat} {B : Nat → Nat} {L : List EnD} (h : Eo base w g B L) : ∀ q, Tb g B L q → base ≤ q ∧ q < w.heap.size := by
  rintro q (rfl | ⟨i, hi, hS, rfl⟩)
  · exact ⟨h.ge, h.lt⟩
  · obtain ⟨ra, cap, _, _, h3⟩ := h.en i hi
    rcases h3 with x | ⟨_, _, x⟩
    · exact absurd x hS
    · exact ⟨x.ge, x.al.lt⟩
set_option maxHeartbeats 1000000 in
theorem markTb (base g cap : Nat) (B : Nat → Nat) (L : List EnD) (w : World) (hn : L.length ≤ 1048576) (hS : ∀ i, i < L.length → (eA L i).S.length ≤ 1048576) (hkb : ∀ i, i ≤ L.length → kA 1 L i ≤ 90000000) (hbs : base ≤ w.heap.size) (h : Eo base w g B L) :
    Calls Try.prog 38 #[.agg #[.slice (some ⟨g, 0, none⟩) L.length cap], .int .i64 1] w fun e w' => e = .returned (.int .i64 (kA 1 L L.length : Int)) ∧ Eo base w' g B (Lm 1 L L.length) ∧ Kq (Tb g B L) w w' := by
  have H := hide (fun W (b : Below w.heap.size w W) => markEns base g cap B L 1 W hn hS (Nat.le_refl _) hkb (Nat.le_trans hbs b.size) (h.below b))
  clear h hS hkb
  go_enter Try.func38, Try.ntmps38
  go_wp2_with fail
  refine (unhide H _ ((Below.refl _ _).alloc (Nat.le_refl _) _)).mono ?_
  rintro e w1 ⟨rfl, h1, k1⟩
  have F := hide (And.intro h1 ((Kq.of ((Below.refl w.heap.size w).alloc (Nat.le_refl _) _)).trans k1))
  clear h1 k1
  go_wp2
  go_ret
  exact ⟨rfl, unhide F⟩
theorem markTb0 (a : Option Addr) (cap : Nat) (w : World) :
    Calls Try.prog 38 #[.agg #[.slice a 0 cap], .int .i64 1] w fun e w' => e = .returned (.int .i64 1) ∧ Below w.heap.size w w' := by
  have H : Hid (∀ W, Calls Try.prog 61 #[.slice a 0 cap, .int .i64 1] W fun e w' => e = .returned (.int .i64 1) ∧ w' = W) := by
    intro W
    go_enter Try.func61, Try.ntmps61
    go_wp2
    refine wp_loop_rounds 1 ?_
    rw [rounds_succ]
    go_wp2
    go_ret
    exact ⟨rfl, rfl⟩
  go_enter Try.func38, Try.ntmps38
  go_wp2_with fail
  refine (unhide H _).mono ?_
  rintro e w1 ⟨rfl, h1⟩
  subst w1
  go_wp2
  go_ret
  exact ⟨rfl, (Below.refl _ _).alloc (Nat.le_refl _) _⟩
end Go.Proofs.Ytldjenhknejpnaa
