/-
  Contracts: the model's DrainBackend.
-/
import Derived.Test.YtldjenhknejpnaaDri
import Derived.Test.YtldjenhknejpnaaSrm
namespace Go.Proofs.Ytldjenhknejpnaa
open Go.ChangeShapes Go.WideShapes Go.ChangeAt Go.RowKit Go.Deep Go.Maps
set_option linter.unusedVariables false
set_option maxRecDepth 100000

/-- a copied table stays where blocks beside it turn -/
theorem ea_kq {w w' : World} {base : Nat} {a : Option Addr} {n cap : Nat} {R : List EnR} {P : Nat → Prop} (hO : Oe base w (.slice a n cap) R) (hP : ∀ r ∈ R, Pr w (.slice a n cap) r) (hn : ∀ r ∈ R, r.D.S ≠ [] → ∀ g, r.ra = some ⟨g, 0, none⟩ → ¬ P g) (hb : ∀ q, P q → q < base) (k : Kq P w w') : Ea w' a (R.map (·.D)) := by
  have O' : Oe base w' (.slice a n cap) R := by
    refine ⟨hO.1, ?_⟩
    rcases hO.2 with q | ⟨g9, cap9, cur9, q1, q2, q3, q4⟩
    · exact Or.inl q
    · exact Or.inr ⟨g9, cap9, cur9, q1, q2, (k.block g9 (Array.getElem?_eq_some_iff.1 q3).1 (fun p => by have := hb g9 p; omega)).trans q3, q4⟩
  have P' : ∀ r ∈ R, Pr w' (.slice a n cap) r := fun r hr => by
    refine ⟨(hP r hr).1, ?_⟩
    rcases (hP r hr).2 with q | ⟨g, q1, q2, q3⟩
    · exact Or.inl q
    · by_cases hS9 : r.D.S = []
      · exact Or.inl hS9
      exact Or.inr ⟨g, q1, q2.move k.size (fun j => World.cell?_of_block (a := ⟨g, j, none⟩) (k.block g q2.lt (hn r hr hS9 g q1))), q3⟩
  exact (er_of rfl O' P').2
/-- no row of servers lies where a slice stands first -/
theorem pr_ne {w : World} {v : Value} {r : EnR} (h : Pr w v r) (hS : r.D.S ≠ []) {g c : Nat} (hg : r.ra = some ⟨g, 0, none⟩) {a : Option Addr} {n m : Nat} (hc : w.cell? ⟨c, 0, none⟩ = some (.slice a n m)) : g ≠ c := by
  intro e
  rcases h.2 with q | ⟨g', q1, q2, _⟩
  · exact hS q
  · rw [hg] at q1
    injection q1 with q1
    injection q1 with q1 _ _
    have h1 := q2.ci 0 (List.length_pos_iff.2 hS)
    simp only [Nat.zero_add, Nat.zero_mul] at h1
    rw [← q1, e, hc] at h1
    cases h1
/-- the model's answer -/
def DrS (D : BlD) (x : ByteArray) (w : World) (e : Ending) (w' : World) : Prop :=
  ∃ ta tc la lc ka kc, e = .returned (.tuple #[blV (drD D x (drB D x)) ta tc la lc ka kc, .bool (drB D x)]) ∧ Bl w' ta la ka (drD D x (drB D x)) ∧ Below w.heap.size w w'
theorem Bl.zero (w : World) : Bl w none none none zBl := ⟨Or.inl rfl, Or.inl rfl, Or.inl rfl⟩
set_option maxHeartbeats 4000000 in
theorem specDr (D : BlD) (ta la ka : Option Addr) (tc lc kc : Nat) (x : ByteArray) (w : World) (hs : smB D) (hcap : D.L.length ≤ lc) (hc63 : lc ≤ 9223372036854775807) (h : Bl w ta la ka D) :
    Calls Try.prog 11 #[blV D ta tc la lc ka kc, .string x] w (DrS D x w) := by
  have HG := hide (fun W (b : Below w.heap.size w W) => specGBl D ta la ka tc lc kc W hs (h.below b))
  have HD := hide (fun W (b : Below w.heap.size w W) => specDb la lc D.L x W hs.l hcap hc63 hs.lz (h.l.kept b))
  unfold DrS drB
  cases hg : gbB D with
  | false =>
    rw [hg] at HG
    rw [Bool.false_and]
    clear h hs hg HD hcap hc63
    go_enter Try.func11, Try.ntmps11
    go_wp2_with fail
    refine (unhide HG _ (((Below.refl _ _).alloc (Nat.le_refl _) _).alloc (by simp) _)).mono ?_
    rintro e w1 ⟨rfl, b1⟩
    have R1 : Bx w1 (w.heap.size + 1) [.slice none 0 0, .slice none 0 0, .int .i64 0, .bool false, .slice none 0 0, .int .i64 0, .int .i64 0] := (Bx.newAt (w.alloc _) _ _ _ (by simp)).below b1
    have B1 := hide ((((Below.refl w.heap.size w).alloc (Nat.le_refl _) _).alloc (by simp) _).trans (b1.mono (by simp; omega)))
    have r1 := R1.cv
    have r2 := R1.fz
    clear R1 b1
    go_wp2
    refine bodyPost_ret (v := .tuple #[blV zBl none 0 none 0 none 0, .bool false]) (by simp [results, Try.results11, go_sem, r1, zBl]) rfl ⟨none, 0, none, 0, none, 0, rfl, Bl.zero _, ?_⟩
    iterate 7 refine Below.setCell ?_ (by simp) _
    exact unhide B1
  | true =>
    rw [hg] at HG
    rw [Bool.true_and]
    obtain ⟨hgt, hK2⟩ := gb_keys hg
    cases hd : dbB D.L x with
    | false =>
      rw [hd] at HD
      have hM : dbM D.L x = [] := by unfold dbM; rw [if_neg (by rw [hd]; exact Bool.false_ne_true)]
      rw [hM] at HD
      clear h hs hg hgt hK2 hM hd hcap hc63
      go_enter Try.func11, Try.ntmps11
      go_wp2_with fail
      refine (unhide HG _ (((Below.refl _ _).alloc (Nat.le_refl _) _).alloc (by simp) _)).mono ?_
      rintro e w1 ⟨rfl, b1⟩
      have A1 : Bx w1 w.heap.size (blC D ta tc la lc ka kc) := ((Bx.new w _ _).alloc _).below b1
      have R1 : Bx w1 (w.heap.size + 1) [.slice none 0 0, .slice none 0 0, .int .i64 0, .bool false, .slice none 0 0, .int .i64 0, .int .i64 0] := (Bx.newAt (w.alloc _) _ _ _ (by simp)).below b1
      have B1 := hide ((((Below.refl w.heap.size w).alloc (Nat.le_refl _) _).alloc (by simp) _).trans (b1.mono (by simp; omega)))
      have a1 := A1.cv
      have HR := hide R1
      clear R1 A1 b1
      go_wp2_with fail
      refine (unhide HD _ (unhide B1)).mono ?_
      rintro e w2 ⟨a2, c2, rfl, s2, b2⟩
      have B2 := hide ((unhide B1).trans (b2.mono (unhide B1).size))
      have r1 := ((unhide HR).below b2).cv
      have r2 := ((unhide HR).below b2).fz
      clear a1 b2 s2 HR B1
      go_wp2
      refine bodyPost_ret (v := .tuple #[blV zBl none 0 none 0 none 0, .bool false]) (by simp [results, Try.results11, go_sem, r1, zBl]) rfl ⟨none, 0, none, 0, none, 0, rfl, Bl.zero _, ?_⟩
      iterate 7 refine Below.setCell ?_ (by simp) _
      exact unhide B2
    | true =>
      rw [hd] at HD
      obtain ⟨hL3, hu, hwf⟩ := gt_facts hgt
      have HO := hide (fun W (b : Below w.heap.size w W) => ownTb ta tc D.T W (by omega) (fun i hi => by have := gt_len hgt i hi; omega) (h.t.below b))
      have HK := hide (fun W (b : Below w.heap.size w W) => h.k.kept b)
      clear h hs hg hgt hd hu hwf hcap hc63
      unfold drD wlD
      generalize dbM D.L x = M at *
      go_enter Try.func11, Try.ntmps11
      go_wp2_with fail
      refine (unhide HG _ (((Below.refl _ _).alloc (Nat.le_refl _) _).alloc (by simp) _)).mono ?_
      rintro e w1 ⟨rfl, b1⟩
      have A1 : Bx w1 w.heap.size (blC D ta tc la lc ka kc) := ((Bx.new w _ _).alloc _).below b1
      have R1 : Bx w1 (w.heap.size + 1) [.slice none 0 0, .slice none 0 0, .int .i64 0, .bool false, .slice none 0 0, .int .i64 0, .int .i64 0] := (Bx.newAt (w.alloc _) _ _ _ (by simp)).below b1
      have B1 := hide ((((Below.refl w.heap.size w).alloc (Nat.le_refl _) _).alloc (by simp) _).trans (b1.mono (by simp; omega)))
      have z1 : w.heap.size + 1 + 1 ≤ w1.heap.size := by have := b1.size; simpa using this
      have a1 := A1.cv
      have HA := hide A1
      have HR := hide R1
      clear R1 A1 b1
      go_wp2_with fail
      refine (unhide HD _ (unhide B1)).mono ?_
      rintro e w2 ⟨a2, c2, rfl, s2, b2⟩
      have L2 := Sn.si s2
      have B2 := (unhide B1).trans (b2.mono (unhide B1).size)
      have A2 := (unhide HA).below b2
      have R2 := (unhide HR).below b2
      have z2 : w1.heap.size ≤ w2.heap.size := b2.size
      obtain ⟨V2, hV2⟩ : ∃ V, V = w2.setCell ⟨w.heap.size, 1, none⟩ (.slice a2 M.length c2) := ⟨_, rfl⟩
      have K2 : Kq (fun q => q < w.heap.size + 1 + 1) w2 V2 := by rw [hV2]; exact (Kq.refl _ _).lo (by omega)
      have L3 := hide (L2.kq K2 (fun q hq => Or.inl (by omega)))
      have A3 := hide (show Bx V2 w.heap.size [.slice ta D.T.length tc, .slice a2 M.length c2, .int .i64 D.sh, .bool D.re, .slice ka D.K.length kc, .int .i64 D.lf, .int .i64 D.ve] by rw [hV2]; exact A2.set (i := 1) (by simp))
      have R3 := hide (show Bx V2 (w.heap.size + 1) [.slice none 0 0, .slice none 0 0, .int .i64 0, .bool false, .slice none 0 0, .int .i64 0, .int .i64 0] by rw [hV2]; exact R2.other (by omega))
      have B3 := hide (show Below w.heap.size w V2 by rw [hV2]; exact B2.setCell (Nat.le_refl _) _)
      have z3 : w2.heap.size ≤ V2.heap.size := K2.size
      have a2c := A2.cv
      have a2f := A2.fz
      have HV2 := hide hV2
      clear a1 b2 s2 HR HA B1 L2 B2 A2 R2 K2 hV2
      go_wp2_with fail
      rw [← unhide HV2]
      clear HV2 a2c a2f
      refine (unhide HO _ (unhide B3)).mono ?_
      rintro e w3 ⟨v, R, rfl, hO, hR, hP, b3⟩
      obtain ⟨a3, c3, rfl, _, _⟩ := hO.form
      have hRl : R.length = D.T.length := by have := congrArg List.length hR; simpa using this
      rw [hRl] at hO hP
      have A4 := (unhide A3).below b3
      have R4 := (unhide R3).below b3
      have L4 := (unhide L3).below b3
      have B4 := (unhide B3).trans (b3.mono (unhide B3).size)
      have z4 : V2.heap.size ≤ w3.heap.size := b3.size
      have hne : ∀ r ∈ R, r.D.S ≠ [] → ∀ g, r.ra = some ⟨g, 0, none⟩ → ¬ (g = w.heap.size ∨ g = w.heap.size + 1) := fun r hr hS g hg => by
        have n1 := pr_ne (hP r hr) hS hg (show w3.cell? ⟨w.heap.size, 0, none⟩ = some (.slice ta D.T.length tc) by rw [A4.cv]; rfl)
        have n2 := pr_ne (hP r hr) hS hg (show w3.cell? ⟨w.heap.size + 1, 0, none⟩ = some (.slice none 0 0) by rw [R4.cv]; rfl)
        omega
      have FT : Hid (∀ W9, Kq (fun q => q = w.heap.size ∨ q = w.heap.size + 1) w3 W9 → Ea W9 a3 D.T) := fun W9 k => by
        have := ea_kq hO hP hne (fun q hq => by omega) k
        rw [hR] at this
        exact this
      obtain ⟨V3, hV3⟩ : ∃ V, V = w3.setCell ⟨w.heap.size, 0, none⟩ (.slice a3 D.T.length c3) := ⟨_, rfl⟩
      have zV : V3.heap.size = w3.heap.size := by rw [hV3]; simp
      have K3 : Kq (fun q => q = w.heap.size ∨ q = w.heap.size + 1) w3 V3 := by rw [hV3]; exact (Kq.refl _ _).set (P := fun q => q = w.heap.size ∨ q = w.heap.size + 1) (Or.inl rfl)
      have A5 : Bx V3 w.heap.size [.slice a3 D.T.length c3, .slice a2 M.length c2, .int .i64 D.sh, .bool D.re, .slice ka D.K.length kc, .int .i64 D.lf, .int .i64 D.ve] := by rw [hV3]; exact A4.set (i := 0) (by simp)
      have R5 : Bx V3 (w.heap.size + 1) [.slice none 0 0, .slice none 0 0, .int .i64 0, .bool false, .slice none 0 0, .int .i64 0, .int .i64 0] := by rw [hV3]; exact R4.other (by omega)
      have L5 := L4.kq K3 (fun q hq => Or.inl (by omega))
      have B5 : Below w.heap.size w V3 := by rw [hV3]; exact B4.setCell (Nat.le_refl _) _
      have AZ : Below w3.heap.size V3 (V3.alloc (.cells #[] 9)) := (Below.refl _ _).alloc (by rw [zV]; exact Nat.le_refl _) _
      have o0 := ost_lit0 V3 w3.heap.size (by rw [zV]; exact Nat.le_refl _)
      rw [zV] at o0
      have sc0 : Sc (V3.alloc (.cells #[] 9)) ka D.K.length (tC D.K) := by
        rcases unhide HK _ (B5.trans (AZ.mono (by omega))) with h0 | ⟨b, o, rfl, hr⟩
        · refine Or.inl ⟨h0, ?_⟩
          rw [List.length_eq_zero_iff.1 h0]
          rfl
        · exact hr.sc 0 D.K (fun j hj => ⟨by omega, by rw [Nat.zero_add]⟩)
      obtain ⟨v5, w5, hrun5, hO5, b5, hv5⟩ := appS (V3.alloc (.cells #[] 9)) 25 w3.heap.size (.slice (some ⟨w3.heap.size, 0, none⟩) 0 0) [] o0 ka kc D.K sc0 (by show 0 + D.K.length ≤ _; omega) (by have := AZ.size; omega)
      rw [List.nil_append] at hO5
      obtain ⟨a5, c5, rfl, _, _, s5⟩ := hO5.form
      have BQ : Below V3.heap.size V3 w5 := by rw [zV]; exact AZ.trans b5
      have A6 := A5.below BQ
      have R6 := R5.below BQ
      have L6 := L5.below BQ
      have B6 := B5.trans (BQ.mono B5.size)
      have K6 := K3.trans (Kq.of BQ)
      obtain ⟨V6, hV6⟩ : ∃ V, V = w5.setCell ⟨w.heap.size, 4, none⟩ (.slice a5 D.K.length c5) := ⟨_, rfl⟩
      have K7 : Kq (fun q => q = w.heap.size ∨ q = w.heap.size + 1) w5 V6 := by rw [hV6]; exact (Kq.refl _ _).set (P := fun q => q = w.heap.size ∨ q = w.heap.size + 1) (Or.inl rfl)
      have A7 : Bx V6 w.heap.size [.slice a3 D.T.length c3, .slice a2 M.length c2, .int .i64 D.sh, .bool D.re, .slice a5 D.K.length c5, .int .i64 D.lf, .int .i64 D.ve] := by rw [hV6]; exact A6.set (i := 4) (by simp)
      have R7 : Bx V6 (w.heap.size + 1) [.slice none 0 0, .slice none 0 0, .int .i64 0, .bool false, .slice none 0 0, .int .i64 0, .int .i64 0] := by rw [hV6]; exact R6.other (by omega)
      have B7 := hide (show Below w.heap.size w V6 by rw [hV6]; exact B6.setCell (Nat.le_refl _) _)
      have S7 : Si w3.heap.size w5.heap.size w5 a5 D.K.length (tA D.K) := Sn.si s5
      have FIN : Hid (∀ W9, Kq (fun q => q = w.heap.size ∨ q = w.heap.size + 1) V6 W9 → Ea W9 a3 D.T ∧ Ta W9 a2 M ∧ Ta W9 a5 D.K) := fun W9 k9 => by
        have k := K7.trans k9
        exact ⟨unhide FT _ (K6.trans k), (L6.kq k (fun q hq => Or.inl (by omega))).sa, (S7.kq k (fun q hq => Or.inl (by omega))).sa⟩
      have HF : Hid (∀ W9, Kq (fun q => q = w.heap.size ∨ q = w.heap.size + 1) V6 W9 → Bl W9 a3 a2 a5 ⟨D.T, M, D.sh, D.re, D.K, D.lf, D.ve⟩) := fun W9 k9 => ⟨(unhide FIN W9 k9).1, (unhide FIN W9 k9).2.1, (unhide FIN W9 k9).2.2⟩
      rw [hV3] at hrun5
      have RUN := hide hrun5
      have HV3 := hide hV3
      have HV6 := hide hV6
      have a4c := A4.cv
      have a4f := A4.fz
      have lw : w.heap.size < w3.heap.size := A4.lt
      have a6c := A6.cv
      have a6f := A6.fz
      have a7c := A7.cv
      have r7c := R7.cv
      have r7f := R7.fz
      rw [hRl]
      clear hRl hO hR hP hne A4 R4 L4 B4 K3 A5 R5 L5 B5 AZ o0 sc0 hrun5 hO5 b5 hv5 s5 BQ A6 R6 L6 B6 K6 K7 A7 R7 S7 FIN FT hV3 hV6 b3 A3 R3 L3 B3 zV
      clear HV3
      go_upto_region 9 with (at_builtin; refine wpl_app rfl _ _ 25 rfl _ _ _ _ rfl rfl (unhide RUN) ?_)
      rw [← unhide HV6]
      clear HV6 a6c a6f RUN a4c a4f
      go_wp2
      refine bodyPost_ret (v := .tuple #[blV ⟨D.T, M, D.sh, D.re, D.K, D.lf, D.ve⟩ a3 c3 a2 c2 a5 c5, .bool true]) (by simp [results, Try.results11, go_sem, r7c]) rfl ⟨a3, c3, a2, c2, a5, c5, rfl, unhide HF _ ?_, ?_⟩
      · iterate 7 refine Kq.set ?_ (Or.inr rfl)
        exact Kq.refl _ _
      · iterate 7 refine Below.setCell ?_ (by simp) _
        exact unhide B7
end Go.Proofs.Ytldjenhknejpnaa
