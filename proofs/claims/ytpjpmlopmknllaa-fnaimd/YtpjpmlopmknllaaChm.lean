/-
  Contracts: what acknowledged and lost bytes make of a window; changed, behind the interface, for each kind of change.
-/
import Derived.Test.YtpjpmlopmknllaaChg
namespace Go.Proofs.Ytpjpmlopmknllaa.Rc
open Go.ChangeShapes Go.WideShapes Go.ChangeAt Go.RowKit Go.Deep
set_option linter.unusedVariables false
set_option maxRecDepth 100000
set_option maxHeartbeats 8000000 in
theorem made_a (n t : Int) (D : WindowD) (hg : wgB D = true) (hn : wsB n = true) (h1 : n ≤ D.f3) (w : World) : Calls Try.prog 66 #[.agg #[.int .i64 n, .int .i64 t], windowV D] w fun e w' => e = .returned (windowV ⟨abS D n t, D.f1, D.f2, D.f3 - n⟩) ∧ Below w.heap.size w w' := by
  obtain ⟨V0, hV0⟩ : ∃ V, V = ((w.alloc (.cells #[.int .i64 n, .int .i64 t] 64)).alloc (.cells (windowC D).toArray 24)).alloc (.cells #[.int .i64 0, .int .i64 0, .int .i64 0, .int .i64 0] 24) := ⟨_, rfl⟩
  have X0 := hide (show Bx V0 w.heap.size [.int .i64 n, .int .i64 t] by rw [hV0]; exact ((Bx.new w [.int .i64 n, .int .i64 t] _).alloc _).alloc _)
  have Y0 := hide (show Bx V0 (w.heap.size + 1) (windowC D) by rw [hV0]; exact (Bx.newAt (w.alloc _) _ _ _ (by simp)).alloc _)
  have Z0 := hide (show Bx V0 (w.heap.size + 1 + 1) [.int .i64 0, .int .i64 0, .int .i64 0, .int .i64 0] by rw [hV0]; exact Bx.newAt ((w.alloc _).alloc _) _ _ _ (by simp))
  have B0 := hide (show Below w.heap.size w V0 by rw [hV0]; exact (((Below.refl w.heap.size w).alloc (Nat.le_refl _) _).alloc (by simp) _).alloc (by simp; omega) _)
  have HV0 := hide hV0
  clear hV0
  have HN := hide (news_l n t D V0)
  obtain ⟨⟨a0, a1⟩, ⟨b0, b1⟩, ⟨c0, c1⟩, ⟨d0, d1⟩⟩ := wg_in hg
  obtain ⟨n0, n1⟩ := wiB_yes hn
  by_cases hl : D.f2 < t
  · have ea : abS D n t = if 100000000 < D.f0 + gqN D n then 100000000 else D.f0 + gqN D n := by
      unfold abS abG gqN
      rw [if_pos hl]
      by_cases hk : D.f0 < D.f1
      · rw [if_pos hk, if_pos hk]
      · rw [if_neg hk, if_neg hk]
    have G0 : 0 ≤ gqN D n ∧ gqN D n ≤ 1500 := by
      have := gq_in hg hn
      unfold gqN
      split <;> omega
    rw [ea]
    clear ea
    have HG := hide (growth_a n t D hg hn)
    rw [decide_eq_true hl] at HN
    have HM := hide (fun S => made_l n t ⟨S, D.f1, D.f2, D.f3⟩ n0 h1 d1)
    have hw : IntKind.i64.wrap (D.f0 + gqN D n) = D.f0 + gqN D n := by rw [IntKind.wrap_i64]; omega
    clear hg hn hl h1
    generalize gqN D n = q at *
    obtain ⟨f0, f1, f2, f3⟩ := D
    dsimp only at *
    obtain ⟨q0, q1⟩ := G0
    clear q0 q1 a0 a1 b0 b1 c0 c1 d0 d1 n0 n1
    have x0 := (unhide X0).cv
    have y0 := (unhide Y0).cv
    by_cases hm : 100000000 < f0 + q
    · rw [if_pos hm]
      go_enter Try.func66, Try.ntmps66
      go_upto_region 1 with fail
      rw [← unhide HV0]
      clear HV0
      go_wp2_with fail
      refine (unhide HN).mono ?_
      rintro e w1 ⟨rfl, b1⟩
      have X1 := hide ((unhide X0).below b1)
      have Y1 := hide ((unhide Y0).below b1)
      have Z1 := hide ((unhide Z0).below b1)
      have B1 := hide ((unhide B0).trans (b1.mono (unhide B0).size))
      clear b1 HN x0 y0 X0 Y0 Z0 B0
      have x1 := (unhide X1).cv
      have x1f := (unhide X1).fz
      have x1l := (unhide X1).lt
      have y1 := (unhide Y1).cv
      have y1f := (unhide Y1).fz
      have y1l := (unhide Y1).lt
      go_upto_region 2 with fail
      go_region_law (go_simp; go_at_call 67; (with_reducible refine (unhide HG _).mono ?_); rintro e w2 ⟨rfl, b2⟩; have X2 := hide ((unhide X1).drew.below b2); have Y2 := hide ((unhide Y1).drew.below b2); have Z2 := hide ((unhide Z1).drew.below b2); have B2 := hide ((unhide B1).drew.trans (b2.mono (unhide B1).drew.size)); have y2 := (unhide Y2).cv; have y2f := (unhide Y2).fz; have y2l := (unhide Y2).lt; clear b2)
      all_goals
        try rw [if_pos (show 100000000 < f0 + q by omega)]
        have Z3 := (unhide Z2).other (c := w.heap.size + 1) (i := 0) (u := .int .i64 100000000) (by omega)
        have B3 := Below.setCell (p := ⟨w.heap.size + 1, 0, none⟩) (unhide B2) (by simp) (.int .i64 100000000)
        have x2 := (unhide X2).cv
        clear X1 Y1 Z1 B1 x1 x1f x1l y1 y1f y1l X2 Y2 Z2 B2 HG hw hm
        go_wp2_with fail
        refine (unhide HM _ _).mono ?_
        rintro e w9 ⟨rfl, b9⟩
        have Z9 := Z3.below b9
        have B9 := hide (B3.trans (b9.mono B3.size))
        have z9 := Z9.cv
        have z9f := Z9.fz
        have z9l := Z9.lt
        clear b9 Z9
        go_wp2
        refine bodyPost_ret (v := windowV ⟨100000000, f1, f2, f3 - n⟩) (by simp [results, Try.results66, go_sem, z9]) rfl ⟨rfl, ?_⟩
        repeat (refine Below.setCell ?_ (by simp <;> omega) _)
        exact unhide B9
    · rw [if_neg hm]
      go_enter Try.func66, Try.ntmps66
      go_upto_region 1 with fail
      rw [← unhide HV0]
      clear HV0
      go_wp2_with fail
      refine (unhide HN).mono ?_
      rintro e w1 ⟨rfl, b1⟩
      have X1 := hide ((unhide X0).below b1)
      have Y1 := hide ((unhide Y0).below b1)
      have Z1 := hide ((unhide Z0).below b1)
      have B1 := hide ((unhide B0).trans (b1.mono (unhide B0).size))
      clear b1 HN x0 y0 X0 Y0 Z0 B0
      have x1 := (unhide X1).cv
      have x1f := (unhide X1).fz
      have x1l := (unhide X1).lt
      have y1 := (unhide Y1).cv
      have y1f := (unhide Y1).fz
      have y1l := (unhide Y1).lt
      go_upto_region 2 with fail
      go_region_law (go_simp; go_at_call 67; (with_reducible refine (unhide HG _).mono ?_); rintro e w2 ⟨rfl, b2⟩; have X2 := hide ((unhide X1).drew.below b2); have Y2 := hide ((unhide Y1).drew.below b2); have Z2 := hide ((unhide Z1).drew.below b2); have B2 := hide ((unhide B1).drew.trans (b2.mono (unhide B1).drew.size)); have y2 := (unhide Y2).cv; have y2f := (unhide Y2).fz; have y2l := (unhide Y2).lt; clear b2)
      all_goals
        try rw [if_neg (show ¬ 100000000 < f0 + q by omega)]
        have Z3 := (unhide Z2).other (c := w.heap.size + 1) (i := 0) (u := .int .i64 (f0 + q)) (by omega)
        have B3 := Below.setCell (p := ⟨w.heap.size + 1, 0, none⟩) (unhide B2) (by simp) (.int .i64 (f0 + q))
        have x2 := (unhide X2).cv
        clear X1 Y1 Z1 B1 x1 x1f x1l y1 y1f y1l X2 Y2 Z2 B2 HG hw hm
        go_wp2_with fail
        refine (unhide HM _ _).mono ?_
        rintro e w9 ⟨rfl, b9⟩
        have Z9 := Z3.below b9
        have B9 := hide (B3.trans (b9.mono B3.size))
        have z9 := Z9.cv
        have z9f := Z9.fz
        have z9l := Z9.lt
        clear b9 Z9
        go_wp2
        refine bodyPost_ret (v := windowV ⟨(f0 + q), f1, f2, f3 - n⟩) (by simp [results, Try.results66, go_sem, z9]) rfl ⟨rfl, ?_⟩
        repeat (refine Below.setCell ?_ (by simp <;> omega) _)
        exact unhide B9
  · have ea : abS D n t = D.f0 := by unfold abS; rw [if_neg hl]
    rw [ea]
    rw [decide_eq_false hl] at HN
    have HM := hide (made_l n t D n0 h1 d1)
    clear ea hg hn hl h1 a0 a1 b0 b1 c0 c1 d0 d1 n0 n1
    obtain ⟨f0, f1, f2, f3⟩ := D
    dsimp only at *
    have x0 := (unhide X0).cv
    have y0 := (unhide Y0).cv
    go_enter Try.func66, Try.ntmps66
    go_upto_region 1 with fail
    rw [← unhide HV0]
    clear HV0
    go_wp2_with fail
    refine (unhide HN).mono ?_
    rintro e w1 ⟨rfl, b1⟩
    have X1 := hide ((unhide X0).below b1)
    have Y1 := hide ((unhide Y0).below b1)
    have Z1 := hide ((unhide Z0).below b1)
    have B1 := hide ((unhide B0).trans (b1.mono (unhide B0).size))
    clear b1 HN x0 y0 X0 Y0 Z0 B0
    have Z3 := unhide Z1
    have B3 := unhide B1
    have x1 := (unhide X1).cv
    have x1f := (unhide X1).fz
    have x1l := (unhide X1).lt
    have y1 := (unhide Y1).cv
    have y1f := (unhide Y1).fz
    have y1l := (unhide Y1).lt
    clear X1 Y1 Z1 B1
    go_wp2_with fail
    refine (unhide HM _).mono ?_
    rintro e w9 ⟨rfl, b9⟩
    have Z9 := Z3.below b9
    have B9 := hide (B3.trans (b9.mono B3.size))
    have z9 := Z9.cv
    have z9f := Z9.fz
    have z9l := Z9.lt
    clear b9 Z9
    go_wp2
    refine bodyPost_ret (v := windowV ⟨f0, f1, f2, f3 - n⟩) (by simp [results, Try.results66, go_sem, z9]) rfl ⟨rfl, ?_⟩
    repeat (refine Below.setCell ?_ (by simp <;> omega) _)
    exact unhide B9
set_option maxHeartbeats 8000000 in
theorem made_x (n t now : Int) (D : WindowD) (hg : wgB D = true) (h0 : 0 ≤ n) (h1 : n ≤ D.f3) (w : World) : Calls Try.prog 60 #[.agg #[.int .i64 n, .int .i64 t, .int .i64 now], windowV D] w fun e w' => e = .returned (windowV (lbT D n t now)) ∧ Below w.heap.size w w' := by
  obtain ⟨V0, hV0⟩ : ∃ V, V = ((w.alloc (.cells #[.int .i64 n, .int .i64 t, .int .i64 now] 55)).alloc (.cells (windowC D).toArray 24)).alloc (.cells #[.int .i64 0, .int .i64 0, .int .i64 0, .int .i64 0] 24) := ⟨_, rfl⟩
  have X0 := hide (show Bx V0 w.heap.size [.int .i64 n, .int .i64 t, .int .i64 now] by rw [hV0]; exact ((Bx.new w [.int .i64 n, .int .i64 t, .int .i64 now] _).alloc _).alloc _)
  have Y0 := hide (show Bx V0 (w.heap.size + 1) (windowC D) by rw [hV0]; exact (Bx.newAt (w.alloc _) _ _ _ (by simp)).alloc _)
  have Z0 := hide (show Bx V0 (w.heap.size + 1 + 1) [.int .i64 0, .int .i64 0, .int .i64 0, .int .i64 0] by rw [hV0]; exact Bx.newAt ((w.alloc _).alloc _) _ _ _ (by simp))
  have B0 := hide (show Below w.heap.size w V0 by rw [hV0]; exact (((Below.refl w.heap.size w).alloc (Nat.le_refl _) _).alloc (by simp) _).alloc (by simp; omega) _)
  have HV0 := hide hV0
  clear hV0
  have HN := hide (news_l n t D V0)
  obtain ⟨⟨a0, a1⟩, ⟨b0, b1⟩, ⟨c0, c1⟩, ⟨d0, d1⟩⟩ := wg_in hg
  by_cases hl : D.f2 < t
  · have ea : lbT D n t now = ⟨lbH D, lbH D, now, D.f3 - n⟩ := by unfold lbT; rw [if_pos hl]
    have dv : Int.tdiv D.f0 2 = D.f0 / 2 := Int.tdiv_eq_ediv_of_nonneg (by omega)
    have hw : IntKind.i64.wrap (D.f0 / 2) = D.f0 / 2 := by rw [IntKind.wrap_i64]; omega
    have hh : (if D.f0 / 2 < 2400 then 2400 else D.f0 / 2) = lbH D := rfl
    rw [ea]
    rw [decide_eq_true hl] at HN
    have HM := hide (fun S T : Int => made_l n t ⟨S, T, now, D.f3⟩ h0 h1 d1)
    generalize lbH D = T at *
    generalize hdq : D.f0 / 2 = dq at *
    clear ea hg hl h0 h1 a0 a1 b0 b1 c0 c1 d0 d1 hdq
    obtain ⟨f0, f1, f2, f3⟩ := D
    dsimp only at *
    have x0 := (unhide X0).cv
    have y0 := (unhide Y0).cv
    go_enter Try.func60, Try.ntmps60
    go_upto_region 1 with fail
    rw [← unhide HV0]
    clear HV0
    go_wp2_with fail
    refine (unhide HN).mono ?_
    rintro e w1 ⟨rfl, b1⟩
    have X1 := hide ((unhide X0).below b1)
    have Y1 := hide ((unhide Y0).below b1)
    have Z1 := hide ((unhide Z0).below b1)
    have B1 := hide ((unhide B0).trans (b1.mono (unhide B0).size))
    clear b1 HN x0 y0 X0 Y0 Z0 B0
    have x1 := (unhide X1).cv
    have x1f := (unhide X1).fz
    have x1l := (unhide X1).lt
    have y1 := (unhide Y1).cv
    have y1f := (unhide Y1).fz
    have y1l := (unhide Y1).lt
    go_upto_region 3 with fail
    obtain ⟨V2, hV2⟩ : ∃ V, V = w1.setCell ⟨w.heap.size + 1, 2, none⟩ (.int .i64 now) := ⟨_, rfl⟩
    rw [← hV2]
    have X2 := hide (show Bx V2 _ _ by rw [hV2]; exact (unhide X1).other (by omega))
    have Y2 := hide (show Bx V2 _ _ by rw [hV2]; exact (unhide Y1).set (by simp))
    have Z2 := hide (show Bx V2 _ _ by rw [hV2]; exact (unhide Z1).other (by omega))
    have B2 := hide (show Below _ _ V2 by rw [hV2]; exact Below.setCell (unhide B1) (by simp) _)
    dsimp only [List.set] at Y2
    clear X1 Y1 Z1 B1 hV2 x1 x1f x1l y1 y1f y1l
    have y2 := (unhide Y2).cv
    have y2f := (unhide Y2).fz
    have y2l := (unhide Y2).lt
    go_upto_region 4 with fail
    obtain ⟨V3, hV3⟩ : ∃ V, V = V2.setCell ⟨w.heap.size + 1, 1, none⟩ (.int .i64 T) := ⟨_, rfl⟩
    rw [← hV3]
    have X3 := hide (show Bx V3 _ _ by rw [hV3]; exact (unhide X2).other (by omega))
    have Y3 := hide (show Bx V3 _ _ by rw [hV3]; exact (unhide Y2).set (by simp))
    have Z3 := hide (show Bx V3 _ _ by rw [hV3]; exact (unhide Z2).other (by omega))
    have B3 := hide (show Below _ _ V3 by rw [hV3]; exact Below.setCell (unhide B2) (by simp) _)
    dsimp only [List.set] at Y3
    clear X2 Y2 Z2 B2 hV3 y2 y2f y2l dv hw hh
    have y3 := (unhide Y3).cv
    have y3f := (unhide Y3).fz
    have y3l := (unhide Y3).lt
    go_upto_region 5 with fail
    obtain ⟨V4, hV4⟩ : ∃ V, V = V3.setCell ⟨w.heap.size + 1, 0, none⟩ (.int .i64 T) := ⟨_, rfl⟩
    rw [← hV4]
    have X4 := hide (show Bx V4 _ _ by rw [hV4]; exact (unhide X3).other (by omega))
    have Y4 := hide (show Bx V4 _ _ by rw [hV4]; exact (unhide Y3).set (by simp))
    have Z4 := hide (show Bx V4 _ _ by rw [hV4]; exact (unhide Z3).other (by omega))
    have B4 := hide (show Below _ _ V4 by rw [hV4]; exact Below.setCell (unhide B3) (by simp) _)
    dsimp only [List.set] at Y4
    clear X3 Y3 Z3 B3 hV4 y3 y3f y3l
    have x4 := (unhide X4).cv
    have x4f := (unhide X4).fz
    have x4l := (unhide X4).lt
    have y4 := (unhide Y4).cv
    have y4f := (unhide Y4).fz
    have y4l := (unhide Y4).lt
    have Z5 := unhide Z4
    have B5 := unhide B4
    clear X4 Y4 Z4 B4
    go_wp2_with fail
    refine (unhide HM _ _ _).mono ?_
    rintro e w9 ⟨rfl, b9⟩
    have Z9 := Z5.below b9
    have B9 := hide (B5.trans (b9.mono B5.size))
    have z9 := Z9.cv
    have z9f := Z9.fz
    have z9l := Z9.lt
    clear b9 Z9
    go_wp2
    refine bodyPost_ret (v := windowV ⟨T, T, now, f3 - n⟩) (by simp [results, Try.results60, go_sem, z9]) rfl ⟨rfl, ?_⟩
    repeat (refine Below.setCell ?_ (by simp <;> omega) _)
    exact unhide B9
  · have ea : lbT D n t now = ⟨D.f0, D.f1, D.f2, D.f3 - n⟩ := by unfold lbT; rw [if_neg hl]
    rw [ea]
    rw [decide_eq_false hl] at HN
    have HM := hide (made_l n t D h0 h1 d1)
    clear ea hg hl h0 h1 a0 a1 b0 b1 c0 c1 d0 d1
    obtain ⟨f0, f1, f2, f3⟩ := D
    dsimp only at *
    have x0 := (unhide X0).cv
    have y0 := (unhide Y0).cv
    go_enter Try.func60, Try.ntmps60
    go_upto_region 1 with fail
    rw [← unhide HV0]
    clear HV0
    go_wp2_with fail
    refine (unhide HN).mono ?_
    rintro e w1 ⟨rfl, b1⟩
    have X1 := hide ((unhide X0).below b1)
    have Y1 := hide ((unhide Y0).below b1)
    have Z1 := hide ((unhide Z0).below b1)
    have B1 := hide ((unhide B0).trans (b1.mono (unhide B0).size))
    clear b1 HN x0 y0 X0 Y0 Z0 B0
    have Z3 := unhide Z1
    have B3 := unhide B1
    have x1 := (unhide X1).cv
    have x1f := (unhide X1).fz
    have x1l := (unhide X1).lt
    have y1 := (unhide Y1).cv
    have y1f := (unhide Y1).fz
    have y1l := (unhide Y1).lt
    clear X1 Y1 Z1 B1
    go_wp2_with fail
    refine (unhide HM _).mono ?_
    rintro e w9 ⟨rfl, b9⟩
    have Z9 := Z3.below b9
    have B9 := hide (B3.trans (b9.mono B3.size))
    have z9 := Z9.cv
    have z9f := Z9.fz
    have z9l := Z9.lt
    clear b9 Z9
    go_wp2
    refine bodyPost_ret (v := windowV ⟨f0, f1, f2, f3 - n⟩) (by simp [results, Try.results60, go_sem, z9]) rfl ⟨rfl, ?_⟩
    repeat (refine Below.setCell ?_ (by simp <;> omega) _)
    exact unhide B9
theorem fits_u (D : WindowD) (w : World) : Calls Try.prog 68 #[.agg #[], windowV D] w fun e w' => e = .returned (.bool false) ∧ Below w.heap.size w w' := by
  go_enter Try.func68, Try.ntmps68
  go_wp2
  go_ret
  exact ⟨rfl, ((Below.refl w.heap.size w).alloc (Nat.le_refl _) _).alloc (by simp) _⟩
set_option maxHeartbeats 8000000 in
theorem chg_s (n : Int) (D : WindowD) (w : World) : Calls Try.prog 22 #[windowV D, .iface 60 (.agg #[.int .i64 n])] w fun e w' => e = .returned (.tuple #[windowV (sbD D n (sbB D n)), .bool (sbB D n)]) ∧ Below w.heap.size w w' := by
  have mf : ∀ W : World, (method 194 60 (.agg #[.int .i64 n]) "loop.example/g00206/impl.fits").run Try.prog W = .ok (62, .agg #[.int .i64 n]) W := by intro W; kernel_rfl
  have mm : ∀ W : World, (method 194 60 (.agg #[.int .i64 n]) "loop.example/g00206/impl.made").run Try.prog W = .ok (63, .agg #[.int .i64 n]) W := by intro W; kernel_rfl
  obtain ⟨V0, hV0⟩ : ∃ V, V = (w.alloc (.cells (windowC D).toArray 24)).alloc (.cells #[.int .i64 0, .int .i64 0, .int .i64 0, .int .i64 0] 24) := ⟨_, rfl⟩
  have Y0 := hide (show Bx V0 w.heap.size (windowC D) by rw [hV0]; exact (Bx.new w (windowC D) _).alloc _)
  have Z0 := hide (show Bx V0 (w.heap.size + 1) [.int .i64 0, .int .i64 0, .int .i64 0, .int .i64 0] by rw [hV0]; exact Bx.newAt (w.alloc _) _ _ _ (by simp))
  have B0 := hide (show Below w.heap.size w V0 by rw [hV0]; exact ((Below.refl w.heap.size w).alloc (Nat.le_refl _) _).alloc (by simp) _)
  have HV0 := hide hV0
  have HG := hide (goodW D)
  have y0 := (unhide Y0).cv
  have HQ : Hid (sbB D n = (wgB D && (wsB n && decide (D.f3 + n ≤ D.f0)))) := rfl
  clear hV0
  cases hg : wgB D with
  | false =>
    have er : sbB D n = false := by rw [unhide HQ, hg]; rfl
    rw [er]
    clear er
    rw [hg] at HG
    clear hg mf mm HQ
    go_enter Try.func22, Try.ntmps22
    go_upto_region 1 with fail
    rw [← unhide HV0]
    clear HV0
    go_wp2_with fail
    refine (unhide HG _).mono ?_
    rintro e w1 ⟨rfl, b1⟩
    have Y1 := hide ((unhide Y0).below b1)
    have Z1 := hide ((unhide Z0).below b1)
    have B1 := hide ((unhide B0).trans (b1.mono (unhide B0).size))
    have y1 := (unhide Y1).cv
    have z1 := (unhide Z1).cv
    have z1f := (unhide Z1).fz
    have z1l := (unhide Z1).lt
    clear b1 HG y0 Y0 Z0 B0
    go_wp2
    refine bodyPost_ret (v := .tuple #[windowZ, .bool false]) (by simp [results, Try.results22, go_sem, z1]) rfl ⟨rfl, ?_⟩
    repeat (refine Below.setCell ?_ (by simp <;> omega) _)
    exact unhide B1
  | true =>
    rw [hg] at HG
    have HF := hide (fits_s n D hg)
    cases e1 : wsB n && decide (D.f3 + n ≤ D.f0) with
    | false =>
      have er : sbB D n = false := by rw [unhide HQ, hg, e1]; rfl
      rw [er]
      rw [e1] at HF
      clear er hg mm HQ e1
      go_enter Try.func22, Try.ntmps22
      go_upto_region 1 with fail
      rw [← unhide HV0]
      clear HV0
      go_wp2_with fail
      refine (unhide HG _).mono ?_
      rintro e w1 ⟨rfl, b1⟩
      have Y1 := hide ((unhide Y0).below b1)
      have Z1 := hide ((unhide Z0).below b1)
      have B1 := hide ((unhide B0).trans (b1.mono (unhide B0).size))
      have y1 := (unhide Y1).cv
      have z1 := (unhide Z1).cv
      have z1f := (unhide Z1).fz
      have z1l := (unhide Z1).lt
      clear b1 HG y0 Y0 Z0 B0
      go_wp2_with fail
      refine (unhide HF _).mono ?_
      rintro e w2 ⟨rfl, b2⟩
      have Y2 := hide ((unhide Y1).below b2)
      have Z2 := hide ((unhide Z1).below b2)
      have B2 := hide ((unhide B1).trans (b2.mono (unhide B1).size))
      have y2 := (unhide Y2).cv
      have z2 := (unhide Z2).cv
      have z2f := (unhide Z2).fz
      have z2l := (unhide Z2).lt
      clear b2 HF y1 Y1 Z1 B1 z1 z1f z1l
      go_wp2
      refine bodyPost_ret (v := .tuple #[windowZ, .bool false]) (by simp [results, Try.results22, go_sem, z2]) rfl ⟨rfl, ?_⟩
      repeat (refine Below.setCell ?_ (by simp <;> omega) _)
      exact unhide B2
    | true =>
      have er : sbB D n = true := by rw [unhide HQ, hg, e1]; rfl
      rw [er]
      rw [e1] at HF
      have k := e1
      simp only [Bool.and_eq_true, decide_eq_true_eq] at k
      obtain ⟨k0, k1⟩ := k
      have k0 := (wiB_yes k0).1
      have HM := hide (made_s n D hg k0 k1)
      clear er hg HQ e1
      show Calls _ _ _ _ fun e w' => e = .returned (.tuple #[windowV (⟨D.f0, D.f1, D.f2, D.f3 + n⟩ : WindowD), .bool true]) ∧ Below w.heap.size w w'
      generalize (⟨D.f0, D.f1, D.f2, D.f3 + n⟩ : WindowD) = E at *
      go_enter Try.func22, Try.ntmps22
      go_upto_region 1 with fail
      rw [← unhide HV0]
      clear HV0
      go_wp2_with fail
      refine (unhide HG _).mono ?_
      rintro e w1 ⟨rfl, b1⟩
      have Y1 := hide ((unhide Y0).below b1)
      have Z1 := hide ((unhide Z0).below b1)
      have B1 := hide ((unhide B0).trans (b1.mono (unhide B0).size))
      have y1 := (unhide Y1).cv
      have z1 := (unhide Z1).cv
      have z1f := (unhide Z1).fz
      have z1l := (unhide Z1).lt
      clear b1 HG y0 Y0 Z0 B0
      go_wp2_with fail
      refine (unhide HF _).mono ?_
      rintro e w2 ⟨rfl, b2⟩
      have Y2 := hide ((unhide Y1).below b2)
      have Z2 := hide ((unhide Z1).below b2)
      have B2 := hide ((unhide B1).trans (b2.mono (unhide B1).size))
      have y2 := (unhide Y2).cv
      have z2 := (unhide Z2).cv
      have z2f := (unhide Z2).fz
      have z2l := (unhide Z2).lt
      clear b2 HF y1 Y1 Z1 B1 z1 z1f z1l
      go_wp2_with fail
      refine (unhide HM _).mono ?_
      rintro e w3 ⟨rfl, b3⟩
      have Z3 := (unhide Z2).below b3
      have B3 := hide ((unhide B2).trans (b3.mono (unhide B2).size))
      have z3 := Z3.cv
      have z3f := Z3.fz
      have z3l := Z3.lt
      clear b3 HM Z3 Y2 Z2 B2 y2 z2 z2f z2l mf mm
      go_wp2
      refine bodyPost_ret (v := .tuple #[windowV E, .bool true]) (by simp [results, Try.results22, go_sem, z3]) rfl ⟨rfl, ?_⟩
      repeat (refine Below.setCell ?_ (by simp <;> omega) _)
      exact unhide B3
set_option maxHeartbeats 8000000 in
theorem chg_a (n t : Int) (D : WindowD) (w : World) : Calls Try.prog 22 #[windowV D, .iface 64 (.agg #[.int .i64 n, .int .i64 t])] w fun e w' => e = .returned (.tuple #[windowV (abD D n t (abB D n t)), .bool (abB D n t)]) ∧ Below w.heap.size w w' := by
  have mf : ∀ W : World, (method 194 64 (.agg #[.int .i64 n, .int .i64 t]) "loop.example/g00206/impl.fits").run Try.prog W = .ok (55, .agg #[.int .i64 n, .int .i64 t]) W := by intro W; kernel_rfl
  have mm : ∀ W : World, (method 194 64 (.agg #[.int .i64 n, .int .i64 t]) "loop.example/g00206/impl.made").run Try.prog W = .ok (66, .agg #[.int .i64 n, .int .i64 t]) W := by intro W; kernel_rfl
  obtain ⟨V0, hV0⟩ : ∃ V, V = (w.alloc (.cells (windowC D).toArray 24)).alloc (.cells #[.int .i64 0, .int .i64 0, .int .i64 0, .int .i64 0] 24) := ⟨_, rfl⟩
  have Y0 := hide (show Bx V0 w.heap.size (windowC D) by rw [hV0]; exact (Bx.new w (windowC D) _).alloc _)
  have Z0 := hide (show Bx V0 (w.heap.size + 1) [.int .i64 0, .int .i64 0, .int .i64 0, .int .i64 0] by rw [hV0]; exact Bx.newAt (w.alloc _) _ _ _ (by simp))
  have B0 := hide (show Below w.heap.size w V0 by rw [hV0]; exact ((Below.refl w.heap.size w).alloc (Nat.le_refl _) _).alloc (by simp) _)
  have HV0 := hide hV0
  have HG := hide (goodW D)
  have y0 := (unhide Y0).cv
  have HQ : Hid (abB D n t = (wgB D && (wsB n && (tkB t && decide (n ≤ D.f3))))) := rfl
  clear hV0
  cases hg : wgB D with
  | false =>
    have er : abB D n t = false := by rw [unhide HQ, hg]; rfl
    rw [er]
    clear er
    rw [hg] at HG
    clear hg mf mm HQ
    go_enter Try.func22, Try.ntmps22
    go_upto_region 1 with fail
    rw [← unhide HV0]
    clear HV0
    go_wp2_with fail
    refine (unhide HG _).mono ?_
    rintro e w1 ⟨rfl, b1⟩
    have Y1 := hide ((unhide Y0).below b1)
    have Z1 := hide ((unhide Z0).below b1)
    have B1 := hide ((unhide B0).trans (b1.mono (unhide B0).size))
    have y1 := (unhide Y1).cv
    have z1 := (unhide Z1).cv
    have z1f := (unhide Z1).fz
    have z1l := (unhide Z1).lt
    clear b1 HG y0 Y0 Z0 B0
    go_wp2
    refine bodyPost_ret (v := .tuple #[windowZ, .bool false]) (by simp [results, Try.results22, go_sem, z1]) rfl ⟨rfl, ?_⟩
    repeat (refine Below.setCell ?_ (by simp <;> omega) _)
    exact unhide B1
  | true =>
    rw [hg] at HG
    have HF := hide (fits_l n t D)
    cases e1 : wsB n && (tkB t && decide (n ≤ D.f3)) with
    | false =>
      have er : abB D n t = false := by rw [unhide HQ, hg, e1]; rfl
      rw [er]
      rw [e1] at HF
      clear er hg mm HQ e1
      go_enter Try.func22, Try.ntmps22
      go_upto_region 1 with fail
      rw [← unhide HV0]
      clear HV0
      go_wp2_with fail
      refine (unhide HG _).mono ?_
      rintro e w1 ⟨rfl, b1⟩
      have Y1 := hide ((unhide Y0).below b1)
      have Z1 := hide ((unhide Z0).below b1)
      have B1 := hide ((unhide B0).trans (b1.mono (unhide B0).size))
      have y1 := (unhide Y1).cv
      have z1 := (unhide Z1).cv
      have z1f := (unhide Z1).fz
      have z1l := (unhide Z1).lt
      clear b1 HG y0 Y0 Z0 B0
      go_wp2_with fail
      refine (unhide HF _).mono ?_
      rintro e w2 ⟨rfl, b2⟩
      have Y2 := hide ((unhide Y1).below b2)
      have Z2 := hide ((unhide Z1).below b2)
      have B2 := hide ((unhide B1).trans (b2.mono (unhide B1).size))
      have y2 := (unhide Y2).cv
      have z2 := (unhide Z2).cv
      have z2f := (unhide Z2).fz
      have z2l := (unhide Z2).lt
      clear b2 HF y1 Y1 Z1 B1 z1 z1f z1l
      go_wp2
      refine bodyPost_ret (v := .tuple #[windowZ, .bool false]) (by simp [results, Try.results22, go_sem, z2]) rfl ⟨rfl, ?_⟩
      repeat (refine Below.setCell ?_ (by simp <;> omega) _)
      exact unhide B2
    | true =>
      have er : abB D n t = true := by rw [unhide HQ, hg, e1]; rfl
      rw [er]
      rw [e1] at HF
      have k := e1
      simp only [Bool.and_eq_true, decide_eq_true_eq] at k
      obtain ⟨k0, k1, k2⟩ := k
      have HM := hide (made_a n t D hg k0 k2)
      clear er hg HQ e1
      show Calls _ _ _ _ fun e w' => e = .returned (.tuple #[windowV (⟨abS D n t, D.f1, D.f2, D.f3 - n⟩ : WindowD), .bool true]) ∧ Below w.heap.size w w'
      generalize (⟨abS D n t, D.f1, D.f2, D.f3 - n⟩ : WindowD) = E at *
      go_enter Try.func22, Try.ntmps22
      go_upto_region 1 with fail
      rw [← unhide HV0]
      clear HV0
      go_wp2_with fail
      refine (unhide HG _).mono ?_
      rintro e w1 ⟨rfl, b1⟩
      have Y1 := hide ((unhide Y0).below b1)
      have Z1 := hide ((unhide Z0).below b1)
      have B1 := hide ((unhide B0).trans (b1.mono (unhide B0).size))
      have y1 := (unhide Y1).cv
      have z1 := (unhide Z1).cv
      have z1f := (unhide Z1).fz
      have z1l := (unhide Z1).lt
      clear b1 HG y0 Y0 Z0 B0
      go_wp2_with fail
      refine (unhide HF _).mono ?_
      rintro e w2 ⟨rfl, b2⟩
      have Y2 := hide ((unhide Y1).below b2)
      have Z2 := hide ((unhide Z1).below b2)
      have B2 := hide ((unhide B1).trans (b2.mono (unhide B1).size))
      have y2 := (unhide Y2).cv
      have z2 := (unhide Z2).cv
      have z2f := (unhide Z2).fz
      have z2l := (unhide Z2).lt
      clear b2 HF y1 Y1 Z1 B1 z1 z1f z1l
      go_wp2_with fail
      refine (unhide HM _).mono ?_
      rintro e w3 ⟨rfl, b3⟩
      have Z3 := (unhide Z2).below b3
      have B3 := hide ((unhide B2).trans (b3.mono (unhide B2).size))
      have z3 := Z3.cv
      have z3f := Z3.fz
      have z3l := Z3.lt
      clear b3 HM Z3 Y2 Z2 B2 y2 z2 z2f z2l mf mm
      go_wp2
      refine bodyPost_ret (v := .tuple #[windowV E, .bool true]) (by simp [results, Try.results22, go_sem, z3]) rfl ⟨rfl, ?_⟩
      repeat (refine Below.setCell ?_ (by simp <;> omega) _)
      exact unhide B3
set_option maxHeartbeats 8000000 in
theorem chg_x (n t now : Int) (D : WindowD) (w : World) : Calls Try.prog 22 #[windowV D, .iface 55 (.agg #[.int .i64 n, .int .i64 t, .int .i64 now])] w fun e w' => e = .returned (.tuple #[windowV (lbD D n t now (lbB D n t now)), .bool (lbB D n t now)]) ∧ Below w.heap.size w w' := by
  have mf : ∀ W : World, (method 194 55 (.agg #[.int .i64 n, .int .i64 t, .int .i64 now]) "loop.example/g00206/impl.fits").run Try.prog W = .ok (59, .agg #[.int .i64 n, .int .i64 t, .int .i64 now]) W := by intro W; kernel_rfl
  have mm : ∀ W : World, (method 194 55 (.agg #[.int .i64 n, .int .i64 t, .int .i64 now]) "loop.example/g00206/impl.made").run Try.prog W = .ok (60, .agg #[.int .i64 n, .int .i64 t, .int .i64 now]) W := by intro W; kernel_rfl
  obtain ⟨V0, hV0⟩ : ∃ V, V = (w.alloc (.cells (windowC D).toArray 24)).alloc (.cells #[.int .i64 0, .int .i64 0, .int .i64 0, .int .i64 0] 24) := ⟨_, rfl⟩
  have Y0 := hide (show Bx V0 w.heap.size (windowC D) by rw [hV0]; exact (Bx.new w (windowC D) _).alloc _)
  have Z0 := hide (show Bx V0 (w.heap.size + 1) [.int .i64 0, .int .i64 0, .int .i64 0, .int .i64 0] by rw [hV0]; exact Bx.newAt (w.alloc _) _ _ _ (by simp))
  have B0 := hide (show Below w.heap.size w V0 by rw [hV0]; exact ((Below.refl w.heap.size w).alloc (Nat.le_refl _) _).alloc (by simp) _)
  have HV0 := hide hV0
  have HG := hide (goodW D)
  have y0 := (unhide Y0).cv
  have HQ : Hid (lbB D n t now = (wgB D && ((wsB n && (tkB t && decide (n ≤ D.f3))) && tkB now))) := by show _ = _; unfold lbB; cases wsB n <;> cases tkB t <;> cases tkB now <;> simp
  clear hV0
  cases hg : wgB D with
  | false =>
    have er : lbB D n t now = false := by rw [unhide HQ, hg]; rfl
    rw [er]
    clear er
    rw [hg] at HG
    clear hg mf mm HQ
    go_enter Try.func22, Try.ntmps22
    go_upto_region 1 with fail
    rw [← unhide HV0]
    clear HV0
    go_wp2_with fail
    refine (unhide HG _).mono ?_
    rintro e w1 ⟨rfl, b1⟩
    have Y1 := hide ((unhide Y0).below b1)
    have Z1 := hide ((unhide Z0).below b1)
    have B1 := hide ((unhide B0).trans (b1.mono (unhide B0).size))
    have y1 := (unhide Y1).cv
    have z1 := (unhide Z1).cv
    have z1f := (unhide Z1).fz
    have z1l := (unhide Z1).lt
    clear b1 HG y0 Y0 Z0 B0
    go_wp2
    refine bodyPost_ret (v := .tuple #[windowZ, .bool false]) (by simp [results, Try.results22, go_sem, z1]) rfl ⟨rfl, ?_⟩
    repeat (refine Below.setCell ?_ (by simp <;> omega) _)
    exact unhide B1
  | true =>
    rw [hg] at HG
    have HF := hide (fits_x n t now D)
    cases e1 : (wsB n && (tkB t && decide (n ≤ D.f3))) && tkB now with
    | false =>
      have er : lbB D n t now = false := by rw [unhide HQ, hg, e1]; rfl
      rw [er]
      rw [e1] at HF
      clear er hg mm HQ e1
      go_enter Try.func22, Try.ntmps22
      go_upto_region 1 with fail
      rw [← unhide HV0]
      clear HV0
      go_wp2_with fail
      refine (unhide HG _).mono ?_
      rintro e w1 ⟨rfl, b1⟩
      have Y1 := hide ((unhide Y0).below b1)
      have Z1 := hide ((unhide Z0).below b1)
      have B1 := hide ((unhide B0).trans (b1.mono (unhide B0).size))
      have y1 := (unhide Y1).cv
      have z1 := (unhide Z1).cv
      have z1f := (unhide Z1).fz
      have z1l := (unhide Z1).lt
      clear b1 HG y0 Y0 Z0 B0
      go_wp2_with fail
      refine (unhide HF _).mono ?_
      rintro e w2 ⟨rfl, b2⟩
      have Y2 := hide ((unhide Y1).below b2)
      have Z2 := hide ((unhide Z1).below b2)
      have B2 := hide ((unhide B1).trans (b2.mono (unhide B1).size))
      have y2 := (unhide Y2).cv
      have z2 := (unhide Z2).cv
      have z2f := (unhide Z2).fz
      have z2l := (unhide Z2).lt
      clear b2 HF y1 Y1 Z1 B1 z1 z1f z1l
      go_wp2
      refine bodyPost_ret (v := .tuple #[windowZ, .bool false]) (by simp [results, Try.results22, go_sem, z2]) rfl ⟨rfl, ?_⟩
      repeat (refine Below.setCell ?_ (by simp <;> omega) _)
      exact unhide B2
    | true =>
      have er : lbB D n t now = true := by rw [unhide HQ, hg, e1]; rfl
      rw [er]
      rw [e1] at HF
      have k := e1
      simp only [Bool.and_eq_true, decide_eq_true_eq] at k
      obtain ⟨⟨k0, k1, k2⟩, k3⟩ := k
      have HM := hide (made_x n t now D hg (wiB_yes k0).1 k2)
      clear er hg HQ e1
      show Calls _ _ _ _ fun e w' => e = .returned (.tuple #[windowV (lbT D n t now), .bool true]) ∧ Below w.heap.size w w'
      generalize (lbT D n t now) = E at *
      go_enter Try.func22, Try.ntmps22
      go_upto_region 1 with fail
      rw [← unhide HV0]
      clear HV0
      go_wp2_with fail
      refine (unhide HG _).mono ?_
      rintro e w1 ⟨rfl, b1⟩
      have Y1 := hide ((unhide Y0).below b1)
      have Z1 := hide ((unhide Z0).below b1)
      have B1 := hide ((unhide B0).trans (b1.mono (unhide B0).size))
      have y1 := (unhide Y1).cv
      have z1 := (unhide Z1).cv
      have z1f := (unhide Z1).fz
      have z1l := (unhide Z1).lt
      clear b1 HG y0 Y0 Z0 B0
      go_wp2_with fail
      refine (unhide HF _).mono ?_
      rintro e w2 ⟨rfl, b2⟩
      have Y2 := hide ((unhide Y1).below b2)
      have Z2 := hide ((unhide Z1).below b2)
      have B2 := hide ((unhide B1).trans (b2.mono (unhide B1).size))
      have y2 := (unhide Y2).cv
      have z2 := (unhide Z2).cv
      have z2f := (unhide Z2).fz
      have z2l := (unhide Z2).lt
      clear b2 HF y1 Y1 Z1 B1 z1 z1f z1l
      go_wp2_with fail
      refine (unhide HM _).mono ?_
      rintro e w3 ⟨rfl, b3⟩
      have Z3 := (unhide Z2).below b3
      have B3 := hide ((unhide B2).trans (b3.mono (unhide B2).size))
      have z3 := Z3.cv
      have z3f := Z3.fz
      have z3l := Z3.lt
      clear b3 HM Z3 Y2 Z2 B2 y2 z2 z2f z2l mf mm
      go_wp2
      refine bodyPost_ret (v := .tuple #[windowV E, .bool true]) (by simp [results, Try.results22, go_sem, z3]) rfl ⟨rfl, ?_⟩
      repeat (refine Below.setCell ?_ (by simp <;> omega) _)
      exact unhide B3
set_option maxHeartbeats 8000000 in
theorem chg_w (D : WindowD) (w : World) : Calls Try.prog 22 #[windowV D, .iface 62 (.agg #[])] w fun e w' => e = .returned (.tuple #[windowV (swD D (wgB D)), .bool (wgB D)]) ∧ Below w.heap.size w w' := by
  have mf : ∀ W : World, (method 194 62 (.agg #[]) "loop.example/g00206/impl.fits").run Try.prog W = .ok (64, .agg #[]) W := by intro W; kernel_rfl
  have mm : ∀ W : World, (method 194 62 (.agg #[]) "loop.example/g00206/impl.made").run Try.prog W = .ok (65, .agg #[]) W := by intro W; kernel_rfl
  obtain ⟨V0, hV0⟩ : ∃ V, V = (w.alloc (.cells (windowC D).toArray 24)).alloc (.cells #[.int .i64 0, .int .i64 0, .int .i64 0, .int .i64 0] 24) := ⟨_, rfl⟩
  have Y0 := hide (show Bx V0 w.heap.size (windowC D) by rw [hV0]; exact (Bx.new w (windowC D) _).alloc _)
  have Z0 := hide (show Bx V0 (w.heap.size + 1) [.int .i64 0, .int .i64 0, .int .i64 0, .int .i64 0] by rw [hV0]; exact Bx.newAt (w.alloc _) _ _ _ (by simp))
  have B0 := hide (show Below w.heap.size w V0 by rw [hV0]; exact ((Below.refl w.heap.size w).alloc (Nat.le_refl _) _).alloc (by simp) _)
  have HV0 := hide hV0
  have HG := hide (goodW D)
  have y0 := (unhide Y0).cv
  have HQ : Hid (wgB D = (wgB D)) := rfl
  clear hV0
  cases hg : wgB D with
  | false =>

    rw [hg] at HG
    clear hg mf mm HQ
    go_enter Try.func22, Try.ntmps22
    go_upto_region 1 with fail
    rw [← unhide HV0]
    clear HV0
    go_wp2_with fail
    refine (unhide HG _).mono ?_
    rintro e w1 ⟨rfl, b1⟩
    have Y1 := hide ((unhide Y0).below b1)
    have Z1 := hide ((unhide Z0).below b1)
    have B1 := hide ((unhide B0).trans (b1.mono (unhide B0).size))
    have y1 := (unhide Y1).cv
    have z1 := (unhide Z1).cv
    have z1f := (unhide Z1).fz
    have z1l := (unhide Z1).lt
    clear b1 HG y0 Y0 Z0 B0
    go_wp2
    refine bodyPost_ret (v := .tuple #[windowZ, .bool false]) (by simp [results, Try.results22, go_sem, z1]) rfl ⟨rfl, ?_⟩
    repeat (refine Below.setCell ?_ (by simp <;> omega) _)
    exact unhide B1
  | true =>
    rw [hg] at HG
    have HF := hide (fits_w D)
    have HM := hide (made_w D)
    clear hg HQ 
    show Calls _ _ _ _ fun e w' => e = .returned (.tuple #[windowV (⟨2400, D.f1, -1, D.f3⟩ : WindowD), .bool true]) ∧ Below w.heap.size w w'
    generalize (⟨2400, D.f1, -1, D.f3⟩ : WindowD) = E at *
    go_enter Try.func22, Try.ntmps22
    go_upto_region 1 with fail
    rw [← unhide HV0]
    clear HV0
    go_wp2_with fail
    refine (unhide HG _).mono ?_
    rintro e w1 ⟨rfl, b1⟩
    have Y1 := hide ((unhide Y0).below b1)
    have Z1 := hide ((unhide Z0).below b1)
    have B1 := hide ((unhide B0).trans (b1.mono (unhide B0).size))
    have y1 := (unhide Y1).cv
    have z1 := (unhide Z1).cv
    have z1f := (unhide Z1).fz
    have z1l := (unhide Z1).lt
    clear b1 HG y0 Y0 Z0 B0
    go_wp2_with fail
    refine (unhide HF _).mono ?_
    rintro e w2 ⟨rfl, b2⟩
    have Y2 := hide ((unhide Y1).below b2)
    have Z2 := hide ((unhide Z1).below b2)
    have B2 := hide ((unhide B1).trans (b2.mono (unhide B1).size))
    have y2 := (unhide Y2).cv
    have z2 := (unhide Z2).cv
    have z2f := (unhide Z2).fz
    have z2l := (unhide Z2).lt
    clear b2 HF y1 Y1 Z1 B1 z1 z1f z1l
    go_wp2_with fail
    refine (unhide HM _).mono ?_
    rintro e w3 ⟨rfl, b3⟩
    have Z3 := (unhide Z2).below b3
    have B3 := hide ((unhide B2).trans (b3.mono (unhide B2).size))
    have z3 := Z3.cv
    have z3f := Z3.fz
    have z3l := Z3.lt
    clear b3 HM Z3 Y2 Z2 B2 y2 z2 z2f z2l mf mm
    go_wp2
    refine bodyPost_ret (v := .tuple #[windowV E, .bool true]) (by simp [results, Try.results22, go_sem, z3]) rfl ⟨rfl, ?_⟩
    repeat (refine Below.setCell ?_ (by simp <;> omega) _)
    exact unhide B3
set_option maxHeartbeats 4000000 in
theorem chg_u (D : WindowD) (w : World) : Calls Try.prog 22 #[windowV D, .iface 75 (.agg #[])] w fun e w' => e = .returned (.tuple #[windowZ, .bool false]) ∧ Below w.heap.size w w' := by
  have mf : ∀ W : World, (method 194 75 (.agg #[]) "loop.example/g00206/impl.fits").run Try.prog W = .ok (68, .agg #[]) W := by intro W; kernel_rfl
  obtain ⟨V0, hV0⟩ : ∃ V, V = (w.alloc (.cells (windowC D).toArray 24)).alloc (.cells #[.int .i64 0, .int .i64 0, .int .i64 0, .int .i64 0] 24) := ⟨_, rfl⟩
  have Y0 := hide (show Bx V0 w.heap.size (windowC D) by rw [hV0]; exact (Bx.new w (windowC D) _).alloc _)
  have Z0 := hide (show Bx V0 (w.heap.size + 1) [.int .i64 0, .int .i64 0, .int .i64 0, .int .i64 0] by rw [hV0]; exact Bx.newAt (w.alloc _) _ _ _ (by simp))
  have B0 := hide (show Below w.heap.size w V0 by rw [hV0]; exact ((Below.refl w.heap.size w).alloc (Nat.le_refl _) _).alloc (by simp) _)
  have HV0 := hide hV0
  have HG := hide (goodW D)
  have y0 := (unhide Y0).cv
  have HF := hide (fits_u D)
  clear hV0
  generalize wgB D = r at *
  cases r with
  | false =>
    go_enter Try.func22, Try.ntmps22
    go_upto_region 1 with fail
    rw [← unhide HV0]
    clear HV0
    go_wp2_with fail
    refine (unhide HG _).mono ?_
    rintro e w1 ⟨rfl, b1⟩
    have Y1 := hide ((unhide Y0).below b1)
    have Z1 := hide ((unhide Z0).below b1)
    have B1 := hide ((unhide B0).trans (b1.mono (unhide B0).size))
    have y1 := (unhide Y1).cv
    have z1 := (unhide Z1).cv
    have z1f := (unhide Z1).fz
    have z1l := (unhide Z1).lt
    clear b1 HG y0 Y0 Z0 B0
    go_wp2
    refine bodyPost_ret (v := .tuple #[windowZ, .bool false]) (by simp [results, Try.results22, go_sem, z1]) rfl ⟨rfl, ?_⟩
    repeat (refine Below.setCell ?_ (by simp <;> omega) _)
    exact unhide B1
  | true =>
    go_enter Try.func22, Try.ntmps22
    go_upto_region 1 with fail
    rw [← unhide HV0]
    clear HV0
    go_wp2_with fail
    refine (unhide HG _).mono ?_
    rintro e w1 ⟨rfl, b1⟩
    have Y1 := hide ((unhide Y0).below b1)
    have Z1 := hide ((unhide Z0).below b1)
    have B1 := hide ((unhide B0).trans (b1.mono (unhide B0).size))
    have y1 := (unhide Y1).cv
    have z1 := (unhide Z1).cv
    have z1f := (unhide Z1).fz
    have z1l := (unhide Z1).lt
    clear b1 HG y0 Y0 Z0 B0
    go_wp2_with fail
    refine (unhide HF _).mono ?_
    rintro e w2 ⟨rfl, b2⟩
    have Y2 := hide ((unhide Y1).below b2)
    have Z2 := hide ((unhide Z1).below b2)
    have B2 := hide ((unhide B1).trans (b2.mono (unhide B1).size))
    have y2 := (unhide Y2).cv
    have z2 := (unhide Z2).cv
    have z2f := (unhide Z2).fz
    have z2l := (unhide Z2).lt
    clear b2 HF y1 Y1 Z1 B1 z1 z1f z1l
    go_wp2
    refine bodyPost_ret (v := .tuple #[windowZ, .bool false]) (by simp [results, Try.results22, go_sem, z2]) rfl ⟨rfl, ?_⟩
    repeat (refine Below.setCell ?_ (by simp <;> omega) _)
    exact unhide B2
end Go.Proofs.Ytpjpmlopmknllaa.Rc
