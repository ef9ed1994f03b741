/-
  Contract: SendNumber of the model.
-/
import Derived.Test.YtccfbkpelehldaaSpn
import Derived.Deep.RegionLaw
import Derived.Deep.DeepCutAuto
namespace Go.Proofs.Ytccfbkpelehldaa.Rc
open Go.ChangeShapes Go.WideShapes Go.ChangeAt Go.RowKit Go.Deep
set_option linter.unusedVariables false
set_option maxRecDepth 100000

set_option maxHeartbeats 8000000 in
theorem specSNo (D : SpaceD) (x : SentD) (hn : D.S.length ≤ 1048576) (W : World) (a : Option Addr) (c : Nat) (h : RdSpace W a D) :
    Calls Try.prog 35 #[spaceV D a c, sentV x] W (SNPo D x W) := by
  obtain ⟨V0, hV0⟩ : ∃ V, V = ((W.alloc (.cells (spaceC D a c).toArray 27)).alloc (.cells (sentC x).toArray 37)).alloc (.cells spaceZ.toArray 27) := ⟨_, rfl⟩
  have A0 := hide (show Bx V0 W.heap.size (spaceC D a c) by rw [hV0]; exact ((Bx.new W _ _).alloc _).alloc _)
  have X0 := hide (show Bx V0 (W.heap.size + 1) (sentC x) by rw [hV0]; exact (Bx.newAt (W.alloc _) _ _ _ (by simp)).alloc _)
  have R0 := hide (show Bx V0 (W.heap.size + 1 + 1) spaceZ by rw [hV0]; exact Bx.newAt ((W.alloc _).alloc _) _ _ _ (by simp))
  have B0 := hide (show Below W.heap.size W V0 by rw [hV0]; exact (((Below.refl W.heap.size W).alloc (Nat.le_refl _) _).alloc (by simp) _).alloc (by simp; omega) _)
  have HL := hide (fun V (b : Below W.heap.size W V) => specLa D a c V hn (h.below b))
  have HG := hide (fun V (b : Below W.heap.size W V) => specGS D a c V hn (h.below b))
  have HR := hide (fun V (b : Below W.heap.size W V) => h.below b)
  have HV0 := hide hV0
  have a0 := (unhide A0).cv
  clear h hV0
  go_enter Try.func35, Try.ntmps35
  go_upto_region 1 with fail
  rw [← unhide HV0]
  clear HV0
  go_wp2_with fail
  refine (unhide HL _ (unhide B0)).mono ?_
  rintro e w1 ⟨rfl, b1⟩
  have hZ : Hid (laS D.S = laS D.S) := rfl
  obtain ⟨V1, hV1⟩ : ∃ V, V = w1.alloc (.cells #[.int .i64 (laS D.S).f0, .int .i64 (laS D.S).f1, .int .i64 (laS D.S).f2] 37) := ⟨_, rfl⟩
  have hAl : Below w1.heap.size w1 V1 := by rw [hV1]; exact (Below.refl _ _).alloc (Nat.le_refl _) _
  have A1 := hide (((unhide A0).below b1).below hAl)
  have X1 := hide (((unhide X0).below b1).below hAl)
  have R1 := hide (((unhide R0).below b1).below hAl)
  have L1 := hide (show Bx V1 w1.heap.size (sentC (laS D.S)) by rw [hV1]; exact Bx.new w1 _ _)
  have B1 := hide (((unhide B0).trans (b1.mono (unhide B0).size)).trans (hAl.mono (Nat.le_trans (unhide B0).size b1.size)))
  have HV1 := hide hV1
  clear b1 hAl hV1 A0 X0 R0 B0 HL a0 hZ
  go_upto_region 2 with fail
  rw [← unhide HV1]
  clear HV1
  have a1 := (unhide A1).cv
  go_wp2_with fail
  refine (unhide HG _ (unhide B1)).mono ?_
  rintro e w2 ⟨rfl, b2⟩
  have A2 := hide ((unhide A1).below b2)
  have X2 := hide ((unhide X1).below b2)
  have R2 := hide ((unhide R1).below b2)
  have L2 := hide ((unhide L1).below b2)
  have B2 := hide ((unhide B1).trans (b2.mono (unhide B1).size))
  clear b2 A1 X1 R1 L1 B1 a1
  have a2 := (unhide A2).cv
  have x2 := (unhide X2).cv
  have l2 := (unhide L2).cv
  have r2 := (unhide R2).cv
  have r2f := (unhide R2).fz
  have r2l := (unhide R2).lt
  have hsn : Hid (snB D x = (gsB D && (decide (D.S.length ≠ 60) && (decide ((laS D.S).f0 < x.f0) && (decide (D.lg < x.f0) && (decide ((laS D.S).f1 ≤ x.f1) && gsB ⟨D.lg, D.S ++ [x], D.r⟩)))))) := rfl
  have NO : Hid (∀ V, snB D x = false → Below W.heap.size W V → SNPo D x W (.returned (.tuple #[.agg spaceZ.toArray, .bool false])) V) := fun V h b => SNPo.no h b
  generalize laS D.S = la at *
  obtain ⟨la0, la1, la2⟩ := la
  cases hg : gsB D with
  | false =>
    have HE : Hid (snB D x = false) := by show _ = _; rw [unhide hsn, hg]; rfl
    clear HG HR A2 X2 L2 R2 hsn hg
    go_wp2
    refine bodyPost_ret (v := .tuple #[.agg spaceZ.toArray, .bool false]) (by simp [results, Try.results35, go_sem, r2]) rfl (unhide NO _ (unhide HE) ?_)
    iterate 7 refine Below.setCell ?_ (by simp <;> omega) _
    exact unhide B2
  | true =>
    have hS := hide hg
    have h60 : D.S.length ≤ 60 := by unfold gsB at hg; simp only [Bool.and_eq_true, decide_eq_true_eq] at hg; exact hg.2.2.1
    rw [hg] at hsn
    clear hg
    by_cases g1 : D.S.length = 60
    · have HE : Hid (snB D x = false) := by show _ = _; rw [unhide hsn, g1]; rfl
      have t1 : ((D.S.length : Int) == 60) = true := beq_iff_eq.2 (by omega)
      clear HG HR A2 X2 L2 R2 hsn hS g1 h60
      go_wp2
      refine bodyPost_ret (v := .tuple #[.agg spaceZ.toArray, .bool false]) (by simp [results, Try.results35, go_sem, r2]) rfl (unhide NO _ (unhide HE) ?_)
      iterate 7 refine Below.setCell ?_ (by simp <;> omega) _
      exact unhide B2
    · have t1 : ((D.S.length : Int) == 60) = false := beq_eq_false_iff_ne.2 (by omega)
      obtain ⟨x0, x1, x2'⟩ := x
      by_cases g2 : la0 < x0
      · have t2 : decide (x0 ≤ la0) = false := decide_eq_false (by omega)
        by_cases g3 : D.lg < x0
        · have t3 : decide (x0 ≤ D.lg) = false := decide_eq_false (by omega)
          by_cases g4 : la1 ≤ x1
          · have t4 : decide (x1 < la1) = false := decide_eq_false (by omega)
            have HE2 : Hid (snB D ⟨x0, x1, x2'⟩ = gsB ⟨D.lg, D.S ++ [⟨x0, x1, x2'⟩], D.r⟩) := by
              show _ = _
              rw [unhide hsn, decide_eq_true g1, decide_eq_true (show (⟨la0, la1, la2⟩ : SentD).f0 < x0 from g2), decide_eq_true g3, decide_eq_true (show (⟨la0, la1, la2⟩ : SentD).f1 ≤ x1 from g4)]
              rfl
            clear hsn g1 g2 g3 g4 L2
            obtain ⟨E0, hE0⟩ : ∃ E0, E0 = Obj.cells #[] 37 := ⟨_, rfl⟩
            obtain ⟨Xo, hXo⟩ : ∃ Xo, Xo = Obj.cells #[.int .i64 x0, .int .i64 x1, .int .i64 x2'] 37 := ⟨_, rfl⟩
            have bd := (unhide B2).drew
            have hsz : w2.drew.heap.size = w2.heap.size := World.size_drew _
            have q1 : (w2.drew.alloc E0).heap.size = w2.heap.size + 1 := by simp
            have q2 : (w2.drew.alloc Xo).heap.size = w2.heap.size + 1 := by simp
            have q3 : ((w2.drew.alloc E0).alloc Xo).heap.size = w2.heap.size + 1 + 1 := by simp
            have q4 : ((w2.drew.alloc Xo).alloc E0).heap.size = w2.heap.size + 1 + 1 := by simp
            have k1 := (Below.refl w2.heap.size w2).drew.alloc (by simp) E0
            have k3 := k1.alloc (by simp) Xo
            have k2 := (Below.refl w2.heap.size w2).drew.alloc (by simp) Xo
            have k4 := k2.alloc (by simp) E0
            have o1 : Ro sentK 37 w2.heap.size (w2.drew.alloc E0) (.slice (some ⟨w2.heap.size, 0, none⟩) 0 0) [] := by
              have := lit0Sent w2.drew w2.heap.size (by omega)
              rw [hsz, ← hE0] at this
              exact this
            have o3 := o1.below ((Below.refl (w2.drew.alloc E0).heap.size (w2.drew.alloc E0)).alloc (Nat.le_refl _) Xo)
            have o5 : Ro sentK 37 w2.heap.size ((w2.drew.alloc Xo).alloc E0) (.slice (some ⟨w2.heap.size + 1, 0, none⟩) 0 0) [] := by
              have := lit0Sent (w2.drew.alloc Xo) w2.heap.size (by omega)
              rw [q2, ← hE0] at this
              exact this
            have hb2 := (unhide B2).size
            obtain ⟨v1, u1, run1, p1, d1, _⟩ := joinSent (w2.drew.alloc E0) w2.heap.size _ [] D.S a c o1 (unhide HR _ ((unhide B2).trans (k1.mono hb2))) (by simp; omega) (by omega)
            obtain ⟨v2, u2, run2, p2, d2, _⟩ := pushSent u1 w2.heap.size v1 D.S ⟨x0, x1, x2'⟩ p1 (by omega) (by have := d1.size; omega)
            obtain ⟨v3, u3, run3, p3, d3, kp3⟩ := joinSent ((w2.drew.alloc E0).alloc Xo) w2.heap.size _ [] D.S a c o3 (unhide HR _ ((unhide B2).trans (k3.mono hb2))) (by simp; omega) (by omega)
            have g4 : Bx u3 (w2.heap.size + 1) (sentC ⟨x0, x1, x2'⟩) := by
              have h9 : Bx ((w2.drew.alloc E0).alloc Xo) (w2.heap.size + 1) (sentC ⟨x0, x1, x2'⟩) := by rw [hXo]; exact Bx.newAt (w2.drew.alloc E0) _ _ _ q1
              exact h9.kept d3.size (kp3 _ (by omega) (fun g hg => by simp [Value.ownBlock] at hg; omega))
            obtain ⟨v4, u4, run4, p4, d4, _⟩ := pushAtSent u3 w2.heap.size v3 D.S ⟨x0, x1, x2'⟩ (w2.heap.size + 1) g4 p3 (by omega) (by have := d3.size; omega)
            obtain ⟨v5, u5, run5, p5, d5, kp5⟩ := joinSent ((w2.drew.alloc Xo).alloc E0) w2.heap.size _ [] D.S a c o5 (unhide HR _ ((unhide B2).trans (k4.mono hb2))) (by simp; omega) (by omega)
            have g6 : Bx u5 w2.heap.size (sentC ⟨x0, x1, x2'⟩) := by
              have h9 : Bx ((w2.drew.alloc Xo).alloc E0) w2.heap.size (sentC ⟨x0, x1, x2'⟩) := by rw [hXo]; exact (Bx.newAt w2.drew _ _ _ hsz).alloc _
              exact h9.kept d5.size (kp5 _ (by omega) (fun g hg => by simp [Value.ownBlock] at hg; omega))
            obtain ⟨v6, u6, run6, p6, d6, _⟩ := pushAtSent u5 w2.heap.size v5 D.S ⟨x0, x1, x2'⟩ w2.heap.size g6 p5 (by omega) (by have := d5.size; omega)
            obtain ⟨aa2, cc2, rfl⟩ := p2.opens
            obtain ⟨aa4, cc4, rfl⟩ := p4.opens
            obtain ⟨aa6, cc6, rfl⟩ := p6.opens
            have n1 : w2.drew.alloc E0 = (w2.alloc E0).drew := rfl
            have n3 : (w2.drew.alloc E0).alloc Xo = ((w2.alloc E0).alloc Xo).drew := rfl
            have n5 : (w2.drew.alloc Xo).alloc E0 = ((w2.alloc Xo).alloc E0).drew := rfl
            rw [n1] at run1
            rw [n3] at run3
            rw [n5] at run5
            have hl0 : W.heap.size < w2.heap.size := by omega
            have hl1 : W.heap.size + 1 < w2.heap.size := by omega
            clear n1 n3 n5
            subst hE0 hXo
            have RUN1 := hide run1
            have RUN2 := hide run2
            have RUN3 := hide run3
            have RUN4 := hide run4
            have RUN5 := hide run5
            have RUN6 := hide run6
            have xu1 := ((unhide X2).below (k1.trans d1)).cv
            have xl1 := ((unhide X2).below (k1.trans d1)).lt
            have xu3 := ((unhide X2).below (k3.trans d3)).cv
            have xl3 := ((unhide X2).below (k3.trans d3)).lt
            have xu5 := ((unhide X2).below (k4.trans d5)).cv
            have xl5 := ((unhide X2).below (k4.trans d5)).lt
            have au2 := ((unhide A2).below ((k1.trans d1).trans d2)).cv
            have af2 := ((unhide A2).below ((k1.trans d1).trans d2)).fz
            have al2 := ((unhide A2).below ((k1.trans d1).trans d2)).lt
            have au4 := ((unhide A2).below ((k3.trans d3).trans d4)).cv
            have af4 := ((unhide A2).below ((k3.trans d3).trans d4)).fz
            have al4 := ((unhide A2).below ((k3.trans d3).trans d4)).lt
            have au6 := ((unhide A2).below ((k4.trans d5).trans d6)).cv
            have af6 := ((unhide A2).below ((k4.trans d5).trans d6)).fz
            have al6 := ((unhide A2).below ((k4.trans d5).trans d6)).lt
            have Z2 := hide (And.intro p2 ((k1.trans d1).trans d2))
            have Z4 := hide (And.intro p4 ((k3.trans d3).trans d4))
            have Z6 := hide (And.intro p6 ((k4.trans d5).trans d6))
            clear run1 run2 run3 run4 run5 run6 p1 p2 p3 p4 p5 p6 d1 d2 d3 d4 d5 d6 k1 k2 k3 k4 o1 o3 o5 g4 g6 kp3 kp5 q1 q2 q3 q4 hsz bd
            go_upto_region 4 with fail
            go_region_law (first
              | (refine stp_app rfl _ _ 23 rfl _ _ _ _ (by simp [Act.eval]) (by simp [Act.eval]) (unhide RUN1) ?_)
              | (refine stp_app rfl _ _ 23 rfl _ _ _ _ (by simp [Act.eval]) (by simp [Act.eval]) (unhide RUN2) ?_; generalize u2 = u at *; generalize aa2 = a9 at *; generalize cc2 = c9 at *; have Z := Z2)
              | (refine stp_app rfl _ _ 23 rfl _ _ _ _ (by simp [Act.eval]) (by simp [Act.eval]) (unhide RUN3) ?_)
              | (refine stp_app rfl _ _ 23 rfl _ _ _ _ (by simp [Act.eval]) (by simp [Act.eval]) (unhide RUN4) ?_; generalize u4 = u at *; generalize aa4 = a9 at *; generalize cc4 = c9 at *; have Z := Z4)
              | (refine stp_app rfl _ _ 23 rfl _ _ _ _ (by simp [Act.eval]) (by simp [Act.eval]) (unhide RUN5) ?_)
              | (refine stp_app rfl _ _ 23 rfl _ _ _ _ (by simp [Act.eval]) (by simp [Act.eval]) (unhide RUN6) ?_; generalize u6 = u at *; generalize aa6 = a9 at *; generalize cc6 = c9 at *; have Z := Z6))
            all_goals
              obtain ⟨pz, bz⟩ := unhide Z
              obtain ⟨a8, c8, e8, _, ri⟩ := pz.form
              have e8' : a9 = a8 := by injection e8
              rw [← e8'] at ri
              have hln : (D.S ++ [(⟨x0, x1, x2'⟩ : SentD)]).length = D.S.length + 1 := by rw [List.length_append]; rfl
              obtain ⟨V9, hV9⟩ : ∃ V, V = u.setCell ⟨W.heap.size, 1, none⟩ (.slice a9 (D.S.length + 1) c9) := ⟨_, rfl⟩
              have A9 : Bx V9 W.heap.size [.int .i64 D.lg, .slice a9 (D.S.length + 1) c9, .bool D.r.kn, .int .i64 D.r.la, .int .i64 D.r.mi, .int .i64 D.r.sm, .int .i64 D.r.va] := by rw [hV9]; exact ((unhide A2).below bz).set (i := 1) (by simp)
              have R9 : Bx V9 (W.heap.size + 1 + 1) spaceZ := by rw [hV9]; exact ((unhide R2).below bz).other (by omega)
              have kq9 : Kq (fun q => q = W.heap.size) u V9 := by rw [hV9]; exact (Kq.refl _ _).set rfl
              have rd9 : Rd sentK V9 a9 (D.S ++ [(⟨x0, x1, x2'⟩ : SentD)]) := (ri.kq kq9 (fun q hq => Or.inl (by omega))).rd
              have B9 : Below W.heap.size W V9 := by rw [hV9]; exact ((unhide B2).trans (bz.mono (unhide B2).size)).setCell (p := ⟨W.heap.size, 1, none⟩) (Nat.le_refl _) _
              have HG9 : Hid (Calls Try.prog 24 #[.agg #[.int .i64 D.lg, .slice a9 (D.S.length + 1) c9, .bool D.r.kn, .int .i64 D.r.la, .int .i64 D.r.mi, .int .i64 D.r.sm, .int .i64 D.r.va]] V9 fun e w' => e = .returned (.bool (snB D ⟨x0, x1, x2'⟩)) ∧ Below V9.heap.size V9 w') := by
                have h9 := specGS ⟨D.lg, D.S ++ [⟨x0, x1, x2'⟩], D.r⟩ a9 c9 V9 (by show (D.S ++ [(⟨x0, x1, x2'⟩ : SentD)]).length ≤ _; omega) rd9
                rw [unhide HE2]
                unfold spaceV at h9
                dsimp only at h9
                rw [hln] at h9
                exact h9
              have YES : Hid (∀ V, snB D ⟨x0, x1, x2'⟩ = true → Below W.heap.size W V → Ro sentK 37 W.heap.size V (.slice a9 (D.S ++ [(⟨x0, x1, x2'⟩ : SentD)]).length c9) (D.S ++ [(⟨x0, x1, x2'⟩ : SentD)]) → SNPo D ⟨x0, x1, x2'⟩ W (.returned (.tuple #[.agg #[.int .i64 D.lg, .slice a9 (D.S.length + 1) c9, .bool D.r.kn, .int .i64 D.r.la, .int .i64 D.r.mi, .int .i64 D.r.sm, .int .i64 D.r.va], .bool true])) V) := fun V h b hr => by
                have h9 := SNPo.yes (c := c9) h hr b
                unfold spaceV at h9
                dsimp only at h9
                rw [hln] at h9
                exact h9
              have hl2 : W.heap.size + 1 + 1 < w2.heap.size := r2l
              have HV9 := hide hV9
              have HA9 := hide A9
              have HR9 := hide R9
              have hz9 : V9.heap.size = u.heap.size := by rw [hV9]; simp
              have HD9 : Hid (Ro sentK 37 w2.heap.size V9 (.slice a9 (D.S ++ [(⟨x0, x1, x2'⟩ : SentD)]).length c9) (D.S ++ [(⟨x0, x1, x2'⟩ : SentD)])) := pz.kq kq9 (fun q hq => by omega)
              have HB9 := hide B9
              clear hV9 A9 R9 rd9 B9 kq9 hz9 ri pz bz e8 e8' hln A2 X2 R2 HG HR HE2 Z a2 x2 l2 r2 r2f r2l
              have a10 := (unhide HA9).cv
              go_upto_region 5 with fail
              rw [← unhide HV9]
              clear HV9
              go_wp2_with fail
              refine (unhide HG9).mono ?_
              rintro e w6 ⟨rfl, b6⟩
              have a11 := ((unhide HA9).below b6).cv
              have r11 := ((unhide HR9).below b6).cv
              have r11f := ((unhide HR9).below b6).fz
              have r11l := ((unhide HR9).below b6).lt
              have B11 := hide ((unhide HB9).trans (b6.mono (unhide HB9).size))
              have D11 := hide ((unhide HD9).below b6)
              have hz6 : V9.heap.size ≤ w6.heap.size := b6.size
              clear b6 a10 HA9 HR9 HB9 HD9 HG9
              cases hr : snB D ⟨x0, x1, x2'⟩ with
              | false =>
                have HE := hide hr
                clear hr
                go_wp2
                refine bodyPost_ret (v := .tuple #[.agg spaceZ.toArray, .bool false]) (by simp [results, Try.results35, go_sem, r11]) rfl (unhide NO _ (unhide HE) ?_)
                iterate 7 refine Below.setCell ?_ (by simp <;> omega) _
                exact unhide B11
              | true =>
                have HE := hide hr
                clear hr
                have hw2 : W.heap.size ≤ w2.heap.size := by omega
                have RDF : Hid (∀ V, Kq (fun q => q = W.heap.size + 1 + 1) w6 V → Ro sentK 37 W.heap.size V (.slice a9 (D.S ++ [(⟨x0, x1, x2'⟩ : SentD)]).length c9) (D.S ++ [(⟨x0, x1, x2'⟩ : SentD)])) := fun V k => ((unhide D11).kq k (fun q hq => by omega)).mono hw2
                go_wp2
                refine bodyPost_ret (v := .tuple #[.agg #[.int .i64 D.lg, .slice a9 (D.S.length + 1) c9, .bool D.r.kn, .int .i64 D.r.la, .int .i64 D.r.mi, .int .i64 D.r.sm, .int .i64 D.r.va], .bool true]) (by simp [results, Try.results35, go_sem, r11]) rfl (unhide YES _ (unhide HE) ?_ (unhide RDF _ ?_))
                · iterate 7 refine Below.setCell ?_ (by simp <;> omega) _
                  exact unhide B11
                · iterate 7 refine Kq.set ?_ rfl
                  exact Kq.refl _ _
          · have t4 : decide (x1 < la1) = true := decide_eq_true (by omega)
            have HE : Hid (snB D ⟨x0, x1, x2'⟩ = false) := by
              show _ = _
              rw [unhide hsn, decide_eq_false (show ¬ (⟨la0, la1, la2⟩ : SentD).f1 ≤ x1 from g4)]
              simp
            clear HG HR A2 X2 L2 R2 hsn hS h60 g1 g2 g3 g4
            go_wp2
            refine bodyPost_ret (v := .tuple #[.agg spaceZ.toArray, .bool false]) (by simp [results, Try.results35, go_sem, r2]) rfl (unhide NO _ (unhide HE) ?_)
            iterate 7 refine Below.setCell ?_ (by simp <;> omega) _
            exact unhide B2
        · have t3 : decide (x0 ≤ D.lg) = true := decide_eq_true (by omega)
          have HE : Hid (snB D ⟨x0, x1, x2'⟩ = false) := by
            show _ = _
            rw [unhide hsn, decide_eq_false g3]
            simp
          clear HG HR A2 X2 L2 R2 hsn hS h60 g1 g2 g3
          go_wp2
          refine bodyPost_ret (v := .tuple #[.agg spaceZ.toArray, .bool false]) (by simp [results, Try.results35, go_sem, r2]) rfl (unhide NO _ (unhide HE) ?_)
          iterate 7 refine Below.setCell ?_ (by simp <;> omega) _
          exact unhide B2
      · have t2 : decide (x0 ≤ la0) = true := decide_eq_true (by omega)
        have HE : Hid (snB D ⟨x0, x1, x2'⟩ = false) := by
          show _ = _
          rw [unhide hsn, decide_eq_false (show ¬ (⟨la0, la1, la2⟩ : SentD).f0 < x0 from g2)]
          simp
        clear HG HR A2 X2 L2 R2 hsn hS h60 g1 g2
        go_wp2
        refine bodyPost_ret (v := .tuple #[.agg spaceZ.toArray, .bool false]) (by simp [results, Try.results35, go_sem, r2]) rfl (unhide NO _ (unhide HE) ?_)
        iterate 7 refine Below.setCell ?_ (by simp <;> omega) _
        exact unhide B2
theorem specSN (D : SpaceD) (x : SentD) (hn : D.S.length ≤ 1048576) (W : World) (a : Option Addr) (c : Nat) (h : RdSpace W a D) :
    Calls Try.prog 35 #[spaceV D a c, sentV x] W (SNP D x W) := (specSNo D x hn W a c h).mono fun _ _ h => h.p
end Go.Proofs.Ytccfbkpelehldaa.Rc
