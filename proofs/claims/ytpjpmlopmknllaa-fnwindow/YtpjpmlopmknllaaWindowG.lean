/-
  The law on windows, walked out of the program's contracts.
-/
import Derived.Test.YtpjpmlopmknllaaDwo
namespace Go.Proofs.Ytpjpmlopmknllaa.Rc
open Go.ChangeShapes Go.WideShapes Go.ChangeAt Go.RowKit Go.Deep
set_option linter.unusedVariables false
set_option maxRecDepth 100000

theorem lb_parts {D : WindowD} {n t now : Int} (h : lbB D n t now = true) : wgB D = true ∧ wsB n = true ∧ tkB t = true ∧ tkB now = true ∧ n ≤ D.f3 := by
  unfold lbB at h
  simp only [Bool.and_eq_true, decide_eq_true_eq] at h
  exact h
theorem sb_parts {D : WindowD} {n : Int} (h : sbB D n = true) : wgB D = true ∧ wsB n = true ∧ D.f3 + n ≤ D.f0 := by
  unfold sbB at h
  simp only [Bool.and_eq_true, decide_eq_true_eq] at h
  exact h
theorem wg_of {a b c d : Int} (h0 : 2400 ≤ a ∧ a ≤ 100000000) (h1 : 2400 ≤ b ∧ b ≤ 100000000) (h2 : -1 ≤ c ∧ c ≤ 1000000000) (h3 : 0 ≤ d ∧ d ≤ 100000000) : wgB ⟨a, b, c, d⟩ = true := by
  unfold wgB wiB
  simp only [Bool.and_eq_true, decide_eq_true_eq]
  exact ⟨h0, h1, h2, h3⟩
theorem lb_again {a b c d now : Int} (hg : wgB ⟨a, b, c, d⟩ = true) (hc : 0 ≤ c) (hn : tkB now = true) : lbB ⟨a, b, c, d⟩ 0 c now = true ∧ lbD ⟨a, b, c, d⟩ 0 c now true = ⟨a, b, c, d - 0⟩ := by
  obtain ⟨_, _, ⟨_, c1⟩, ⟨d0, _⟩⟩ := wg_in hg
  dsimp only at c1 d0
  constructor
  · unfold lbB wsB wiB
    rw [hg, hn]
    have : tkB c = true := by unfold tkB; simp [hc, c1]
    rw [this]
    simp [d0]
  · show lbT _ _ _ _ = _
    unfold lbT
    rw [if_neg (by dsimp only; omega)]
theorem lb_never {a b c d now : Int} (hc : c < 0) : lbB ⟨a, b, c, d⟩ 0 c now = false := by
  unfold lbB
  have : tkB c = false := by unfold tkB; simp; omega
  rw [this]
  simp
set_option maxHeartbeats 16000000 in
theorem window_given (a0 : Option Addr) (n0 c0 : Nat) (a1 : Option Addr) (n1 c1 : Nat) (w : World) (hN : n0 + n1 ≤ 1048576) (hC0 : Cd w a0 n0) (hC1 : Cd w a1 n1)
    (HL : ∀ (D : WindowD) (n t now : Int), okWindow D → okI n → okI t → okI now → ∀ W, Calls Try.prog 6 #[windowV D, .int .i64 n, .int .i64 t, .int .i64 now] W fun e w' => e = .returned (.tuple #[windowV (lbD D n t now (lbB D n t now)), .bool (lbB D n t now)]) ∧ Below W.heap.size W w')
    (HS : ∀ (D : WindowD) (n : Int), okWindow D → okI n → ∀ W, Calls Try.prog 10 #[windowV D, .int .i64 n] W fun e w' => e = .returned (.tuple #[windowV (sbD D n (sbB D n)), .bool (sbB D n)]) ∧ Below W.heap.size W w')
    (HR : ∀ (D : WindowD), okWindow D → ∀ W, Calls Try.prog 12 #[windowV D] W fun e w' => e = .returned (.tuple #[.int .i64 (riN D (wgB D)), .bool (wgB D)]) ∧ Below W.heap.size W w')
    (HT : ∀ (D : WindowD), okWindow D → ∀ W, Calls Try.prog 13 #[windowV D] W fun e w' => e = .returned (.tuple #[windowV (swD D (wgB D)), .bool (wgB D)]) ∧ Below W.heap.size W w')
    (HG : ∀ (D : WindowD), okWindow D → ∀ W, Calls Try.prog 8 #[windowV D] W fun e w' => e = .returned (.bool (wgB D)) ∧ Below W.heap.size W w') :
    Calls Try.prog 3 #[.slice a0 n0 c0, .slice a1 n1 c1] w fun e w' => e = .returned (.bool true) ∧ Below w.heap.size w w' := by
  have hh : ¬ (1048576 : Int) < (n0 : Int) + (n1 : Int) := by omega
  have hw0 : IntKind.i64.wrap ((n0 : Int) + (n1 : Int)) = (n0 : Int) + (n1 : Int) := by rw [IntKind.wrap_i64]; omega
  have HC0 := hide hC0
  have HC1 := hide hC1
  have HHL := hide HL
  have HHS := hide HS
  have HHR := hide HR
  have HHT := hide HT
  have HHG := hide HG
  clear hC0 hC1 HL HS HR HT HG
  go_enter Try.func3, Try.ntmps3
  go_wp2_with fail
  refine (drawLB_any a0 n0 c0 _ (by omega) (unhide HC0)).mono ?_
  rintro e w1 ⟨D, n, t, now, rfl, sD, hn, ht, hnw, b1⟩
  have OD := hide (smW_ok sD)
  have ON : Hid (okI n ∧ okI t ∧ okI now) := by unfold okI; show _ ∧ _; omega
  clear sD
  obtain ⟨V1, hV⟩ : ∃ V, V = w1.alloc (.cells #[.int .i64 D.f0, .int .i64 D.f1, .int .i64 D.f2, .int .i64 D.f3] 24) := ⟨_, rfl⟩
  have AL : Below w1.heap.size w1 V1 := by rw [hV]; exact (Below.refl _ _).alloc (Nat.le_refl _) _
  have bV := b1.trans (AL.mono b1.size)
  have PV1 := hide (show Bx V1 w1.heap.size (windowC D) by rw [hV]; exact Bx.new w1 _ _)
  have B1 := hide (bV)
  have HV := hide hV
  clear hV AL bV b1
  go_upto_region 4 with fail
  rw [← unhide HV]
  clear HV
  have H2 := hide (unhide HHL D n t now (unhide OD) (unhide ON).1 (unhide ON).2.1 (unhide ON).2.2)
  have H3 := hide (specLB D n t now)
  obtain ⟨r, hr⟩ : ∃ r, r = lbB D n t now := ⟨_, rfl⟩
  rw [← hr] at H2 H3
  obtain ⟨E, hE⟩ : ∃ E, E = lbD D n t now r := ⟨_, rfl⟩
  rw [← hE] at H2 H3
  have HRR := hide hr
  have HEE := hide hE
  clear hr hE
  have z1 := (unhide PV1).cv
  have z1l := (unhide PV1).lt
  go_wp2_with fail
  refine (unhide H2 _).mono ?_
  rintro e w2 ⟨rfl, b2⟩
  clear z1 z1l
  obtain ⟨V2, hV⟩ : ∃ V, V = w2.alloc (.cells #[.int .i64 E.f0, .int .i64 E.f1, .int .i64 E.f2, .int .i64 E.f3] 24) := ⟨_, rfl⟩
  have AL : Below w2.heap.size w2 V2 := by rw [hV]; exact (Below.refl _ _).alloc (Nat.le_refl _) _
  have bV := b2.trans (AL.mono b2.size)
  have PV2 := hide (show Bx V2 w2.heap.size (windowC E) by rw [hV]; exact Bx.new w2 _ _)
  replace PV1 := hide ((unhide PV1).below bV)
  have B2 := hide ((unhide B1).trans (bV.mono (unhide B1).size))
  have HV := hide hV
  clear hV AL bV b2 B1
  go_upto_region 5 with fail
  rw [← unhide HV]
  clear HV
  have z1 := (unhide PV1).cv
  have z1l := (unhide PV1).lt
  go_wp2_with fail
  refine (unhide H3 _).mono ?_
  rintro e w3 ⟨rfl, b3⟩
  clear z1 z1l
  obtain ⟨V3, hV⟩ : ∃ V, V = w3.alloc (.cells #[.int .i64 E.f0, .int .i64 E.f1, .int .i64 E.f2, .int .i64 E.f3] 24) := ⟨_, rfl⟩
  have AL : Below w3.heap.size w3 V3 := by rw [hV]; exact (Below.refl _ _).alloc (Nat.le_refl _) _
  have bV := b3.trans (AL.mono b3.size)
  have PV3 := hide (show Bx V3 w3.heap.size (windowC E) by rw [hV]; exact Bx.new w3 _ _)
  replace PV1 := hide ((unhide PV1).below bV)
  replace PV2 := hide ((unhide PV2).below bV)
  have B3 := hide ((unhide B2).trans (bV.mono (unhide B2).size))
  have HV := hide hV
  clear hV AL bV b3 B2
  go_upto_region 6 with fail
  rw [← unhide HV]
  clear HV
  have x1 := (unhide PV1).cv
  have x1l := (unhide PV1).lt
  have x2 := (unhide PV2).cv
  have x2l := (unhide PV2).lt
  have x3 := (unhide PV3).cv
  have x3l := (unhide PV3).lt
  go_upto_if 63 with fail
  go_cut [] (fun wx => Hid (Below w.heap.size w wx))
  case first =>
    cases r with
    | false =>
      go_wp2
      go_meet
      exact B3
    | true =>
      obtain ⟨g1, g2, g3, g4, g5⟩ := lb_parts (unhide HRR).symm
      obtain ⟨⟨d00, d01⟩, ⟨d10, d11⟩, ⟨d20, d21⟩, ⟨d30, d31⟩⟩ := wg_in g1
      obtain ⟨m0, m1⟩ := wiB_yes g2
      obtain ⟨w0, w1'⟩ := tkB_yes g4
      have dv : Int.tdiv D.f0 2 = D.f0 / 2 := Int.tdiv_eq_ediv_of_nonneg (by omega)
      have hE := unhide HEE
      have eT : lbD D n t now true = lbT D n t now := rfl
      rw [eT] at hE
      unfold lbT at hE
      have G4 := hide g4
      obtain ⟨f0, f1, f2, f3⟩ := D
      dsimp only at d00 d01 d10 d11 d20 d21 d30 d31 dv hE g5
      have ws : IntKind.i64.wrap (f3 - n) = f3 - n := by rw [IntKind.wrap_i64]; omega
      clear g1 g2 g3 g4 HRR HEE eT H2 H3 HHS HHR HHT HC1
      by_cases ht2 : f2 < t
      · rw [if_pos ht2] at hE
        unfold lbH at hE
        dsimp only at hE
        by_cases hq : f0 / 2 < 2400
        · rw [if_pos hq] at hE
          have hEE : E = ⟨2400, 2400, now, f3 - n⟩ := hE
          subst hEE
          have hg : wgB ⟨2400, 2400, now, f3 - n⟩ = true := wg_of (by omega) (by omega) (by omega) (by omega)
          have HG1 := hide (unhide HHG ⟨2400, 2400, now, f3 - n⟩ (smW_ok (wg_sm hg)))
          rw [hg] at HG1
          have HL1 := hide (unhide HHL ⟨2400, 2400, now, f3 - n⟩ 0 now now (smW_ok (wg_sm hg)) (by unfold okI; omega) (by unfold okI; omega) (by unfold okI; omega))
          obtain ⟨ag1, ag2⟩ := lb_again hg (show (0 : Int) ≤ now by omega) (unhide G4)
          rw [ag1, ag2] at HL1
          clear ag1 ag2
          clear hg G4
          go_wp2_with fail
          refine (unhide HG1 _).mono ?_
          rintro e w5 ⟨rfl, b5⟩
          have x51 := ((unhide PV1).below b5).cv
          have x51l := ((unhide PV1).below b5).lt
          have P52 := hide ((unhide PV2).below b5)
          have x52 := (unhide P52).cv
          have x52l := (unhide P52).lt
          have B5 := hide ((unhide B3).trans (b5.mono (unhide B3).size))
          clear b5 x1 x1l x2 x2l x3 x3l B3 PV1 PV2 PV3
          go_wp2_with fail
          refine (unhide HL1 _).mono ?_
          rintro e w6 ⟨rfl, b6⟩
          have x62 := ((unhide P52).below b6).cv
          have x62l := ((unhide P52).below b6).lt
          have B6 := hide ((unhide B5).trans (b6.mono (unhide B5).size))
          clear b6 x51 x51l x52 x52l P52 B5
          have B7 := hide ((unhide B6).alloc (unhide B6).size (.cells #[.int .i64 2400, .int .i64 2400, .int .i64 now, .int .i64 (f3 - n)] 24))
          go_wp2
          go_meet
          exact B7
        · rw [if_neg hq] at hE
          have hEE : E = ⟨f0 / 2, f0 / 2, now, f3 - n⟩ := hE
          subst hEE
          have hg : wgB ⟨f0 / 2, f0 / 2, now, f3 - n⟩ = true := wg_of (by omega) (by omega) (by omega) (by omega)
          have HG1 := hide (unhide HHG ⟨f0 / 2, f0 / 2, now, f3 - n⟩ (smW_ok (wg_sm hg)))
          rw [hg] at HG1
          have HL1 := hide (unhide HHL ⟨f0 / 2, f0 / 2, now, f3 - n⟩ 0 now now (smW_ok (wg_sm hg)) (by unfold okI; omega) (by unfold okI; omega) (by unfold okI; omega))
          obtain ⟨ag1, ag2⟩ := lb_again hg (show (0 : Int) ≤ now by omega) (unhide G4)
          rw [ag1, ag2] at HL1
          clear ag1 ag2
          clear hg G4
          go_wp2_with fail
          refine (unhide HG1 _).mono ?_
          rintro e w5 ⟨rfl, b5⟩
          have x51 := ((unhide PV1).below b5).cv
          have x51l := ((unhide PV1).below b5).lt
          have P52 := hide ((unhide PV2).below b5)
          have x52 := (unhide P52).cv
          have x52l := (unhide P52).lt
          have B5 := hide ((unhide B3).trans (b5.mono (unhide B3).size))
          clear b5 x1 x1l x2 x2l x3 x3l B3 PV1 PV2 PV3
          go_wp2_with fail
          refine (unhide HL1 _).mono ?_
          rintro e w6 ⟨rfl, b6⟩
          have x62 := ((unhide P52).below b6).cv
          have x62l := ((unhide P52).below b6).lt
          have B6 := hide ((unhide B5).trans (b6.mono (unhide B5).size))
          clear b6 x51 x51l x52 x52l P52 B5
          have B7 := hide ((unhide B6).alloc (unhide B6).size (.cells #[.int .i64 (f0 / 2), .int .i64 (f0 / 2), .int .i64 now, .int .i64 (f3 - n)] 24))
          go_wp2
          go_meet
          exact B7
      · rw [if_neg ht2] at hE
        by_cases hq : f0 / 2 < 2400
        · by_cases hz : 0 ≤ f2
          · have hz9 := hz
            have hEE : E = ⟨f0, f1, f2, f3 - n⟩ := hE
            subst hEE
            have hg : wgB ⟨f0, f1, f2, f3 - n⟩ = true := wg_of (by omega) (by omega) (by omega) (by omega)
            have HG1 := hide (unhide HHG ⟨f0, f1, f2, f3 - n⟩ (smW_ok (wg_sm hg)))
            rw [hg] at HG1
            have HL1 := hide (unhide HHL ⟨f0, f1, f2, f3 - n⟩ 0 f2 now (smW_ok (wg_sm hg)) (by unfold okI; omega) (by unfold okI; omega) (by unfold okI; omega))
            obtain ⟨ag1, ag2⟩ := lb_again hg (show (0 : Int) ≤ f2 by omega) (unhide G4)
            rw [ag1, ag2] at HL1
            clear ag1 ag2
            clear hg G4
            go_wp2_with fail
            refine (unhide HG1 _).mono ?_
            rintro e w5 ⟨rfl, b5⟩
            have x51 := ((unhide PV1).below b5).cv
            have x51l := ((unhide PV1).below b5).lt
            have P52 := hide ((unhide PV2).below b5)
            have x52 := (unhide P52).cv
            have x52l := (unhide P52).lt
            have B5 := hide ((unhide B3).trans (b5.mono (unhide B3).size))
            clear b5 x1 x1l x2 x2l x3 x3l B3 PV1 PV2 PV3
            go_wp2_with fail
            refine (unhide HL1 _).mono ?_
            rintro e w6 ⟨rfl, b6⟩
            have x62 := ((unhide P52).below b6).cv
            have x62l := ((unhide P52).below b6).lt
            have B6 := hide ((unhide B5).trans (b6.mono (unhide B5).size))
            clear b6 x51 x51l x52 x52l P52 B5
            have B7 := hide ((unhide B6).alloc (unhide B6).size (.cells #[.int .i64 f0, .int .i64 f1, .int .i64 f2, .int .i64 (f3 - n)] 24))
            go_wp2
            go_meet
            exact B7
          · have hz9 := hz
            have hEE : E = ⟨f0, f1, f2, f3 - n⟩ := hE
            subst hEE
            have hg : wgB ⟨f0, f1, f2, f3 - n⟩ = true := wg_of (by omega) (by omega) (by omega) (by omega)
            have HG1 := hide (unhide HHG ⟨f0, f1, f2, f3 - n⟩ (smW_ok (wg_sm hg)))
            rw [hg] at HG1
            have HL1 := hide (unhide HHL ⟨f0, f1, f2, f3 - n⟩ 0 f2 now (smW_ok (wg_sm hg)) (by unfold okI; omega) (by unfold okI; omega) (by unfold okI; omega))
            rw [lb_never (by omega)] at HL1
            clear hg G4
            go_wp2_with fail
            refine (unhide HG1 _).mono ?_
            rintro e w5 ⟨rfl, b5⟩
            have x51 := ((unhide PV1).below b5).cv
            have x51l := ((unhide PV1).below b5).lt
            have P52 := hide ((unhide PV2).below b5)
            have x52 := (unhide P52).cv
            have x52l := (unhide P52).lt
            have B5 := hide ((unhide B3).trans (b5.mono (unhide B3).size))
            clear b5 x1 x1l x2 x2l x3 x3l B3 PV1 PV2 PV3
            go_wp2_with fail
            refine (unhide HL1 _).mono ?_
            rintro e w6 ⟨rfl, b6⟩
            have x62 := ((unhide P52).below b6).cv
            have x62l := ((unhide P52).below b6).lt
            have B6 := hide ((unhide B5).trans (b6.mono (unhide B5).size))
            clear b6 x51 x51l x52 x52l P52 B5
            have B7 := hide ((unhide B6).alloc (unhide B6).size (.cells #[.int .i64 0, .int .i64 0, .int .i64 0, .int .i64 0] 24))
            go_wp2
            go_meet
            exact B7
        · by_cases hz : 0 ≤ f2
          · have hz9 := hz
            have hEE : E = ⟨f0, f1, f2, f3 - n⟩ := hE
            subst hEE
            have hg : wgB ⟨f0, f1, f2, f3 - n⟩ = true := wg_of (by omega) (by omega) (by omega) (by omega)
            have HG1 := hide (unhide HHG ⟨f0, f1, f2, f3 - n⟩ (smW_ok (wg_sm hg)))
            rw [hg] at HG1
            have HL1 := hide (unhide HHL ⟨f0, f1, f2, f3 - n⟩ 0 f2 now (smW_ok (wg_sm hg)) (by unfold okI; omega) (by unfold okI; omega) (by unfold okI; omega))
            obtain ⟨ag1, ag2⟩ := lb_again hg (show (0 : Int) ≤ f2 by omega) (unhide G4)
            rw [ag1, ag2] at HL1
            clear ag1 ag2
            clear hg G4
            go_wp2_with fail
            refine (unhide HG1 _).mono ?_
            rintro e w5 ⟨rfl, b5⟩
            have x51 := ((unhide PV1).below b5).cv
            have x51l := ((unhide PV1).below b5).lt
            have P52 := hide ((unhide PV2).below b5)
            have x52 := (unhide P52).cv
            have x52l := (unhide P52).lt
            have B5 := hide ((unhide B3).trans (b5.mono (unhide B3).size))
            clear b5 x1 x1l x2 x2l x3 x3l B3 PV1 PV2 PV3
            go_wp2_with fail
            refine (unhide HL1 _).mono ?_
            rintro e w6 ⟨rfl, b6⟩
            have x62 := ((unhide P52).below b6).cv
            have x62l := ((unhide P52).below b6).lt
            have B6 := hide ((unhide B5).trans (b6.mono (unhide B5).size))
            clear b6 x51 x51l x52 x52l P52 B5
            have B7 := hide ((unhide B6).alloc (unhide B6).size (.cells #[.int .i64 f0, .int .i64 f1, .int .i64 f2, .int .i64 (f3 - n)] 24))
            go_wp2
            go_meet
            exact B7
          · have hz9 := hz
            have hEE : E = ⟨f0, f1, f2, f3 - n⟩ := hE
            subst hEE
            have hg : wgB ⟨f0, f1, f2, f3 - n⟩ = true := wg_of (by omega) (by omega) (by omega) (by omega)
            have HG1 := hide (unhide HHG ⟨f0, f1, f2, f3 - n⟩ (smW_ok (wg_sm hg)))
            rw [hg] at HG1
            have HL1 := hide (unhide HHL ⟨f0, f1, f2, f3 - n⟩ 0 f2 now (smW_ok (wg_sm hg)) (by unfold okI; omega) (by unfold okI; omega) (by unfold okI; omega))
            rw [lb_never (by omega)] at HL1
            clear hg G4
            go_wp2_with fail
            refine (unhide HG1 _).mono ?_
            rintro e w5 ⟨rfl, b5⟩
            have x51 := ((unhide PV1).below b5).cv
            have x51l := ((unhide PV1).below b5).lt
            have P52 := hide ((unhide PV2).below b5)
            have x52 := (unhide P52).cv
            have x52l := (unhide P52).lt
            have B5 := hide ((unhide B3).trans (b5.mono (unhide B3).size))
            clear b5 x1 x1l x2 x2l x3 x3l B3 PV1 PV2 PV3
            go_wp2_with fail
            refine (unhide HL1 _).mono ?_
            rintro e w6 ⟨rfl, b6⟩
            have x62 := ((unhide P52).below b6).cv
            have x62l := ((unhide P52).below b6).lt
            have B6 := hide ((unhide B5).trans (b6.mono (unhide B5).size))
            clear b6 x51 x51l x52 x52l P52 B5
            have B7 := hide ((unhide B6).alloc (unhide B6).size (.cells #[.int .i64 0, .int .i64 0, .int .i64 0, .int .i64 0] 24))
            go_wp2
            go_meet
            exact B7
  case rest =>
  obtain ⟨w4, hw4⟩ : ∃ V, V = wc := ⟨_, rfl⟩
  rw [← hw4] at hcut ⊢
  have B4 := hcut
  clear hw4 hcut x1 x1l x2 x2l x3 x3l PV1 PV2 PV3 B3 H2 H3 HRR HEE HHL HHG OD ON
  go_wp2_with fail
  refine (drawSB_any a1 n1 c1 _ (by omega) ((unhide HC1).below (unhide B4))).mono ?_
  rintro e w5 ⟨D5, n5, rfl, sD, hn5, b5⟩
  have OD := hide (smW_ok sD)
  have ON : Hid (okI n5) := by unfold okI; show _ ∧ _; omega
  have sD' : smW D5 := sD
  unfold smW at sD'
  clear sD
  obtain ⟨V5, hV⟩ : ∃ V, V = w5.alloc (.cells #[.int .i64 D5.f0, .int .i64 D5.f1, .int .i64 D5.f2, .int .i64 D5.f3] 24) := ⟨_, rfl⟩
  have AL : Below w5.heap.size w5 V5 := by rw [hV]; exact (Below.refl _ _).alloc (Nat.le_refl _) _
  have bV := b5.trans (AL.mono b5.size)
  have PV5 := hide (show Bx V5 w5.heap.size (windowC D5) by rw [hV]; exact Bx.new w5 _ _)
  have B5 := hide ((unhide B4).trans (bV.mono (unhide B4).size))
  have HV := hide hV
  clear hV AL bV b5 B4
  go_upto_region 18 with fail
  rw [← unhide HV]
  clear HV
  have H5 := hide (unhide HHS D5 n5 (unhide OD) (unhide ON))
  have H6 := hide (specSB D5 n5)
  have H7 := hide (unhide HHR D5 (unhide OD))
  have H8 := hide (unhide HHT D5 (unhide OD))
  have FF : (sbB D5 n5 = true ∧ wgB D5 = true ∧ 0 ≤ n5 ∧ D5.f3 + n5 ≤ D5.f0 ∧ riN D5 true = D5.f0 - D5.f3 ∧ (sbD D5 n5 true).f3 = D5.f3 + n5) ∨ sbB D5 n5 = false := by
    cases h : sbB D5 n5 with
    | false => exact Or.inr rfl
    | true =>
      obtain ⟨g1, g2, g3⟩ := sb_parts h
      obtain ⟨m0, _⟩ := wiB_yes g2
      exact Or.inl ⟨rfl, g1, m0, g3, if_neg (by omega), rfl⟩
  have ZZ : wgB D5 = true → (swD D5 (wgB D5)).f0 = 2400 := fun h => by rw [h]; rfl
  obtain ⟨r, hr⟩ : ∃ r, r = sbB D5 n5 := ⟨_, rfl⟩
  obtain ⟨g, hg⟩ : ∃ g, g = wgB D5 := ⟨_, rfl⟩
  rw [← hr] at H5 H6 FF
  rw [← hg] at H7 H8 FF ZZ
  obtain ⟨E, hE⟩ : ∃ E, E = sbD D5 n5 r := ⟨_, rfl⟩
  rw [← hE] at H5 H6
  obtain ⟨k, hk⟩ : ∃ k, k = riN D5 g := ⟨_, rfl⟩
  rw [← hk] at H7
  obtain ⟨Z, hZ⟩ : ∃ Z, Z = swD D5 g := ⟨_, rfl⟩
  rw [← hZ] at H8 ZZ
  have FF2 : (r = true ∧ g = true ∧ 0 ≤ n5 ∧ D5.f3 + n5 ≤ D5.f0 ∧ k = D5.f0 - D5.f3 ∧ E.f3 = D5.f3 + n5) ∨ r = false := by
    rcases FF with ⟨h1, h2, h3, h4, h5, h6⟩ | h
    · rw [h1] at hE
      rw [h2] at hk
      exact Or.inl ⟨h1, h2, h3, h4, hk.trans h5, by rw [hE]; exact h6⟩
    · exact Or.inr h
  have HF := hide FF2
  have HZ := hide ZZ
  have HB := hide sD'
  clear hr hg hE hk hZ FF ZZ FF2 OD ON sD'
  have z1 := (unhide PV5).cv
  have z1l := (unhide PV5).lt
  go_wp2_with fail
  refine (unhide H5 _).mono ?_
  rintro e w6 ⟨rfl, b6⟩
  clear z1 z1l
  obtain ⟨V6, hV⟩ : ∃ V, V = w6.alloc (.cells #[.int .i64 E.f0, .int .i64 E.f1, .int .i64 E.f2, .int .i64 E.f3] 24) := ⟨_, rfl⟩
  have AL : Below w6.heap.size w6 V6 := by rw [hV]; exact (Below.refl _ _).alloc (Nat.le_refl _) _
  have bV := b6.trans (AL.mono b6.size)
  have PV6 := hide (show Bx V6 w6.heap.size (windowC E) by rw [hV]; exact Bx.new w6 _ _)
  replace PV5 := hide ((unhide PV5).below bV)
  have B6 := hide ((unhide B5).trans (bV.mono (unhide B5).size))
  have HV := hide hV
  clear hV AL bV b6 B5
  go_upto_region 19 with fail
  rw [← unhide HV]
  clear HV
  have z1 := (unhide PV5).cv
  have z1l := (unhide PV5).lt
  go_wp2_with fail
  refine (unhide H6 _).mono ?_
  rintro e w7 ⟨rfl, b7⟩
  clear z1 z1l
  obtain ⟨V7, hV⟩ : ∃ V, V = w7.alloc (.cells #[.int .i64 E.f0, .int .i64 E.f1, .int .i64 E.f2, .int .i64 E.f3] 24) := ⟨_, rfl⟩
  have AL : Below w7.heap.size w7 V7 := by rw [hV]; exact (Below.refl _ _).alloc (Nat.le_refl _) _
  have bV := b7.trans (AL.mono b7.size)
  have PV7 := hide (show Bx V7 w7.heap.size (windowC E) by rw [hV]; exact Bx.new w7 _ _)
  replace PV5 := hide ((unhide PV5).below bV)
  replace PV6 := hide ((unhide PV6).below bV)
  have B7 := hide ((unhide B6).trans (bV.mono (unhide B6).size))
  have HV := hide hV
  clear hV AL bV b7 B6
  go_upto_region 20 with fail
  rw [← unhide HV]
  clear HV
  have z1 := (unhide PV5).cv
  have z1l := (unhide PV5).lt
  go_wp2_with fail
  refine (unhide H7 _).mono ?_
  rintro e w8 ⟨rfl, b8⟩
  have P5 := hide ((unhide PV5).below b8)
  have P6 := hide ((unhide PV6).below b8)
  have B8 := hide ((unhide B7).trans (b8.mono (unhide B7).size))
  clear z1 z1l b8 PV5 PV6 PV7 B7
  have y5 := (unhide P5).cv
  have y5l := (unhide P5).lt
  have y6 := (unhide P6).cv
  have y6l := (unhide P6).lt
  obtain ⟨f0, f1, f2, f3⟩ := D5
  obtain ⟨e0, e1, e2, e3⟩ := E
  obtain ⟨sb0, sb1, sb2, sb3⟩ := unhide HB
  dsimp only at sb0 sb1 sb2 sb3
  have wn : IntKind.i64.wrap (f3 + n5) = f3 + n5 := by rw [IntKind.wrap_i64]; omega
  rcases unhide HF with ⟨rfl, rfl, hn0, hle, rfl, h6⟩ | rfl
  · dsimp only at h6 hle
    subst h6
    have t1 : ¬ f0 - f3 < n5 := by omega
    have q5 := (unhide P5).cv
    go_wp2_with fail
    refine (unhide H8 _).mono ?_
    rintro e w9 ⟨rfl, b9⟩
    have B9 := hide ((unhide B8).trans (b9.mono (unhide B8).size))
    have B10 := hide ((unhide B9).alloc (unhide B9).size (.cells #[.int .i64 Z.f0, .int .i64 Z.f1, .int .i64 Z.f2, .int .i64 Z.f3] 24))
    clear b9 q5 P5 P6 B8 B9 y5 y5l y6 y6l
    have hz : Z.f0 = 2400 := by first | exact unhide HZ rfl | exact unhide HZ trivial
    obtain ⟨z0, zz1, zz2, zz3⟩ := Z
    dsimp only at hz
    subst hz
    go_wp2
    go_ret
    exact ⟨rfl, unhide B10⟩
  · cases g with
    | true =>
      have q5 := (unhide P5).cv
      go_wp2_with fail
      refine (unhide H8 _).mono ?_
      rintro e w9 ⟨rfl, b9⟩
      have B9 := hide ((unhide B8).trans (b9.mono (unhide B8).size))
      have B10 := hide ((unhide B9).alloc (unhide B9).size (.cells #[.int .i64 Z.f0, .int .i64 Z.f1, .int .i64 Z.f2, .int .i64 Z.f3] 24))
      clear b9 q5 P5 P6 B8 B9 y5 y5l y6 y6l
      have hz : Z.f0 = 2400 := by first | exact unhide HZ rfl | exact unhide HZ trivial
      obtain ⟨z0, zz1, zz2, zz3⟩ := Z
      dsimp only at hz
      subst hz
      go_wp2
      go_ret
      exact ⟨rfl, unhide B10⟩
    | false =>
      have q5 := (unhide P5).cv
      go_wp2_with fail
      refine (unhide H8 _).mono ?_
      rintro e w9 ⟨rfl, b9⟩
      have B9 := hide ((unhide B8).trans (b9.mono (unhide B8).size))
      have B10 := hide ((unhide B9).alloc (unhide B9).size (.cells #[.int .i64 Z.f0, .int .i64 Z.f1, .int .i64 Z.f2, .int .i64 Z.f3] 24))
      clear b9 q5 P5 P6 B8 B9 y5 y5l y6 y6l
      go_wp2
      go_ret
      exact ⟨rfl, unhide B10⟩
end Go.Proofs.Ytpjpmlopmknllaa.Rc
