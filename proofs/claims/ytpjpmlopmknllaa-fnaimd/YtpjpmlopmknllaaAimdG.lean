/-
  The law on additive increase, walked out of the program's contracts.
-/
import Derived.Test.YtpjpmlopmknllaaDwo
import Derived.Test.YtpjpmlopmknllaaOpGrow
namespace Go.Proofs.Ytpjpmlopmknllaa.Rc
open Go.ChangeShapes Go.WideShapes Go.ChangeAt Go.RowKit Go.Deep
set_option linter.unusedVariables false
set_option maxRecDepth 100000

theorem wg_mk {a b c d : Int} (h0 : 2400 ≤ a ∧ a ≤ 100000000) (h1 : 2400 ≤ b ∧ b ≤ 100000000) (h2 : -1 ≤ c ∧ c ≤ 1000000000) (h3 : 0 ≤ d ∧ d ≤ 100000000) : wgB ⟨a, b, c, d⟩ = true := by
  unfold wgB wiB
  simp only [Bool.and_eq_true, decide_eq_true_eq]
  exact ⟨h0, h1, h2, h3⟩
theorem ab_parts {D : WindowD} {n t : Int} (h : abB D n t = true) : wgB D = true ∧ wsB n = true ∧ tkB t = true ∧ n ≤ D.f3 := by
  unfold abB at h
  simp only [Bool.and_eq_true, decide_eq_true_eq] at h
  exact h
/-- how a window grows -/
theorem ab_facts {D : WindowD} {n t : Int} (h : abB D n t = true) :
    D.f0 ≤ abS D n t ∧ abS D n t ≤ 100000000 ∧ (¬ D.f2 < t → abS D n t = D.f0) ∧ (D.f2 < t → D.f0 < D.f1 → abS D n t = D.f0 + n ∨ abS D n t = 100000000) ∧ (D.f2 < t → ¬ D.f0 < D.f1 → (abS D n t - D.f0) * D.f0 ≤ 1200 * n) := by
  obtain ⟨g1, g2, _, _⟩ := ab_parts h
  obtain ⟨⟨h0, h1⟩, _⟩ := wg_in g1
  obtain ⟨n0, n1⟩ := wiB_yes g2
  obtain ⟨q0, q1⟩ := gq_in g1 g2
  have hq : 1200 * n / D.f0 * D.f0 ≤ 1200 * n := Int.ediv_mul_le _ (by omega)
  by_cases ht : D.f2 < t
  · have e1 : abS D n t = if 100000000 < abG D n then 100000000 else abG D n := by unfold abS; rw [if_pos ht]
    by_cases hs : D.f0 < D.f1
    · have e2 : abG D n = D.f0 + n := by unfold abG; rw [if_pos hs]
      rw [e1, e2]
      refine ⟨?_, ?_, fun h => absurd ht h, fun _ _ => ?_, fun _ h => absurd hs h⟩
      · split <;> omega
      · split <;> omega
      · split
        · exact Or.inr rfl
        · exact Or.inl rfl
    · have e2 : abG D n = D.f0 + 1200 * n / D.f0 := by unfold abG; rw [if_neg hs]
      rw [e1, e2]
      refine ⟨?_, ?_, fun h => absurd ht h, fun _ h => absurd h hs, fun _ _ => ?_⟩
      · split <;> omega
      · split <;> omega
      · split
        · have h9 : (100000000 - D.f0) * D.f0 ≤ 1200 * n / D.f0 * D.f0 := Int.mul_le_mul_of_nonneg_right (by omega) (by omega)
          omega
        · rw [show D.f0 + 1200 * n / D.f0 - D.f0 = 1200 * n / D.f0 by omega]
          exact hq
  · have e1 : abS D n t = D.f0 := by unfold abS; rw [if_neg ht]
    rw [e1]
    exact ⟨Int.le_refl _, h1, fun _ => rfl, fun h => absurd h ht, fun h => absurd h ht⟩
/-- a grow leaves a good window good -/
theorem grS_good {D : WindowD} (g : GrowD) (h : wgB D = true) : wgB (grS D g) = true := by
  obtain ⟨⟨a0, a1⟩, ⟨b0, b1⟩, ⟨c0, c1⟩, ⟨d0, d1⟩⟩ := wg_in h
  unfold grS
  split
  · rename_i ho
    unfold grO at ho
    unfold grX
    by_cases k1 : g.f0 = 1
    · rw [if_pos k1] at ho ⊢
      rw [ho]
      unfold sbB at ho
      simp only [Bool.and_eq_true, decide_eq_true_eq] at ho
      obtain ⟨m0, m1⟩ := wiB_yes ho.2.1
      exact wg_mk ⟨a0, a1⟩ ⟨b0, b1⟩ ⟨c0, c1⟩ (by omega)
    rw [if_neg k1] at ho ⊢
    by_cases k2 : g.f0 = 2
    · rw [if_pos k2] at ho ⊢
      obtain ⟨e1, e2, _⟩ := ab_facts ho
      obtain ⟨_, g2, _, g4⟩ := ab_parts ho
      obtain ⟨m0, m1⟩ := wiB_yes g2
      rw [ho]
      exact wg_mk (by omega) ⟨b0, b1⟩ ⟨c0, c1⟩ (by omega)
    rw [if_neg k2] at ho ⊢
    by_cases k3 : g.f0 = 3
    · rw [if_pos k3] at ho ⊢
      obtain ⟨l0, l1⟩ := lbH_in h
      rw [ho]
      unfold lbB at ho
      simp only [Bool.and_eq_true, decide_eq_true_eq] at ho
      obtain ⟨m0, m1⟩ := wiB_yes ho.2.1
      obtain ⟨w0, w1⟩ := tkB_yes ho.2.2.2.1
      show wgB (lbT D g.f1 g.f2 g.f3) = true
      unfold lbT
      split
      · exact wg_mk ⟨l0, l1⟩ ⟨l0, l1⟩ (by omega) (by omega)
      · exact wg_mk ⟨a0, a1⟩ ⟨b0, b1⟩ ⟨c0, c1⟩ (by omega)
    rw [if_neg k3] at ho ⊢
    by_cases k4 : g.f0 = 4
    · rw [if_pos k4] at ho ⊢
      rw [ho]
      exact wg_mk (by omega) ⟨b0, b1⟩ (by omega) ⟨d0, d1⟩
    · rw [if_neg k4] at ho
      cases ho
  · exact h
theorem fold_good : ∀ (L : List GrowD) (D : WindowD), wgB D = true → wgB (L.foldl grS D) = true
  | [], D, h => h
  | g :: L, D, h => fold_good L _ (grS_good g h)
theorem pwS_ge : ∀ (L : List GrowD) (D : WindowD), wgB D = true → ∀ x ∈ pwS D L, 2400 ≤ x ∧ x ≤ 100000000
  | [], D, h, x, hx => by cases hx
  | g :: L, D, h, x, hx => by
    rcases List.mem_cons.1 hx with rfl | hx
    · exact (wg_in (grS_good g h)).1
    · exact pwS_ge L _ (grS_good g h) x hx
set_option maxHeartbeats 1000000 in
theorem sameI_same (a a' : Option Addr) (cap cap' : Nat) (L : List Int) (w : World) (hN : L.length ≤ 1048576) (h : Rd intK w a L) (h' : Rd intK w a' L) :
    Calls Try.prog 20 #[.slice a L.length cap, .slice a' L.length cap'] w fun e w' => e = .returned (.bool true) ∧ Below w.heap.size w w' := by
  have HR := hide h
  have HR' := hide h'
  clear h h'
  go_enter Try.func20, Try.ntmps20
  go_wp2
  go_loopw [13] (fun i wr => ∃ k : Nat, k ≤ L.length ∧ i = .int .i64 k ∧ Below w.heap.size w wr) (fun i _ => L.length - (intOf i).toNat)
  case atStart => exact ⟨0, Nat.zero_le _, rfl, Below.refl _ _⟩
  case round =>
    obtain ⟨k, hk, rfl, hbel⟩ := hrel
    by_cases hlt : k < L.length
    · rcases (unhide HR).below hbel with h0 | ⟨b, o, rfl, _, hel⟩
      · rw [h0] at hlt; exact absurd hlt (Nat.not_lt_zero _)
      rcases (unhide HR').below hbel with h0 | ⟨b', o', rfl, _, hel'⟩
      · rw [h0] at hlt; exact absurd hlt (Nat.not_lt_zero _)
      have c0 := int_r hel hlt
      have d0 := int_r hel' hlt
      have hnk : (k : Int) < (L.length : Int) := by omega
      have hk0 : (0 : Int) ≤ (k : Int) := by omega
      clear hel hel'
      go_wp2_with fail
      go_quiet (fail)
      all_goals
        go_wp2
        exact ⟨⟨k + 1, by omega, by go_num, below_drewN hbel _⟩, by simp [intOf]; omega⟩
    · go_wp2
      go_ret
      exact ⟨rfl, hbel⟩
set_option maxHeartbeats 1000000 in
theorem drawPW_any (a : Option Addr) (N cap : Nat) (w : World) (hN : N ≤ 1048576) (h : Cd w a N) :
    Calls Try.prog 17 #[.slice a N cap] w fun e w' => ∃ (b : Option Addr) (c : Nat) (L : List GrowD), e = .returned (.slice b L.length c) ∧ L.length ≤ 101 ∧ (∀ g ∈ L, smG g) ∧ Rd growK w' b L ∧ Below w.heap.size w w' := by
  obtain ⟨V0, hV0⟩ : ∃ V, V = w.alloc (.cells #[.slice a N cap, .int .i64 0, .int .u64 0] 49) := ⟨_, rfl⟩
  have U0 := hide (show Cu V0 w.heap.size a N cap 0 by rw [hV0]; exact cu_first cap _ h)
  have B0 := hide (show Below w.heap.size w V0 by rw [hV0]; exact (Below.refl w.heap.size w).alloc (Nat.le_refl _) _)
  have HV0 := hide hV0
  clear h hV0
  go_enter Try.func17, Try.ntmps17
  go_upto_region 2 with fail
  rw [← unhide HV0]
  clear HV0
  go_wp2_with fail
  refine (grows_any w.heap.size a N cap 0 _ hN (by omega) (unhide U0)).mono ?_
  rintro e w1 ⟨v1, L, rfl, hL, sG, o1, u1, k1⟩
  obtain ⟨b, c, rfl, _, i1⟩ := o1.form
  have F := hide (And.intro hL (And.intro sG (And.intro (Ri.rd i1) ((unhide B0).trans (k1.below (Nat.le_refl _) (unhide B0).size)))))
  clear hL sG o1 i1 u1 k1 B0 U0
  go_wp2
  go_ret
  exact ⟨b, c, L, rfl, (unhide F).1, (unhide F).2.1, (unhide F).2.2.1, (unhide F).2.2.2⟩
set_option maxHeartbeats 16000000 in
theorem aimd_given (a0 : Option Addr) (n0 c0 : Nat) (a1 : Option Addr) (n1 c1 : Nat) (w : World) (hN : n0 + n1 ≤ 1048576) (hC0 : Cd w a0 n0) (hC1 : Cd w a1 n1)
    (HA : ∀ (D : WindowD) (n t : Int), okWindow D → okI n → okI t → ∀ W, Calls Try.prog 15 #[windowV D, .int .i64 n, .int .i64 t] W fun e w' => e = .returned (.tuple #[windowV (abD D n t (abB D n t)), .bool (abB D n t)]) ∧ Below W.heap.size W w')
    (HG : ∀ (D : WindowD), okWindow D → ∀ W, Calls Try.prog 8 #[windowV D] W fun e w' => e = .returned (.bool (wgB D)) ∧ Below W.heap.size W w')
    (HP : ∀ (L : List GrowD), L.length ≤ 1048576 → (∀ i, i < L.length → okGrow (gt growK L i)) → ∀ (W : World) (a : Option Addr) (c : Nat), Rd growK W a L → Calls Try.prog 18 #[.slice a L.length c] W (PWP L W)) :
    Calls Try.prog 4 #[.slice a0 n0 c0, .slice a1 n1 c1] w fun e w' => e = .returned (.bool true) ∧ Below w.heap.size w w' := by
  have hh : ¬ (1048576 : Int) < (n0 : Int) + (n1 : Int) := by omega
  have hw0 : IntKind.i64.wrap ((n0 : Int) + (n1 : Int)) = (n0 : Int) + (n1 : Int) := by rw [IntKind.wrap_i64]; omega
  have HC0 := hide hC0
  have HC1 := hide hC1
  have HHA := hide HA
  have HHG := hide HG
  have HHP := hide HP
  clear hC0 hC1 HA HG HP
  go_enter Try.func4, Try.ntmps4
  go_wp2_with fail
  refine (drawAB_any a0 n0 c0 _ (by omega) (unhide HC0)).mono ?_
  rintro e w1 ⟨D, n, t, rfl, sD, hn, ht, b1⟩
  have OD := hide (smW_ok sD)
  have ON : Hid (okI n ∧ okI t) := by unfold okI; show _ ∧ _; omega
  clear sD
  obtain ⟨V1, hV⟩ : ∃ V, V = w1.alloc (.cells #[.int .i64 D.f0, .int .i64 D.f1, .int .i64 D.f2, .int .i64 D.f3] 24) := ⟨_, rfl⟩
  have AL : Below w1.heap.size w1 V1 := by rw [hV]; exact (Below.refl _ _).alloc (Nat.le_refl _) _
  have bV := b1.trans (AL.mono b1.size)
  have PV1 := hide (show Bx V1 w1.heap.size (windowC D) by rw [hV]; exact Bx.new w1 _ _)
  have B1 := hide (bV)
  have HV := hide hV
  clear hV AL bV b1
  go_upto_region 4 with fail
  rw [← unhide HV]
  clear HV
  have H2 := hide (unhide HHA D n t (unhide OD) (unhide ON).1 (unhide ON).2)
  have H3 := hide (specAB D n t)
  obtain ⟨r, hr⟩ : ∃ r, r = abB D n t := ⟨_, rfl⟩
  rw [← hr] at H2 H3
  obtain ⟨E, hE⟩ : ∃ E, E = abD D n t r := ⟨_, rfl⟩
  rw [← hE] at H2 H3
  have HRR := hide hr
  have HEE := hide hE
  clear hr hE
  have z1 := (unhide PV1).cv
  have z1l := (unhide PV1).lt
  go_wp2_with fail
  refine (unhide H2 _).mono ?_
  rintro e w2 ⟨rfl, b2⟩
  clear z1 z1l
  obtain ⟨V2, hV⟩ : ∃ V, V = w2.alloc (.cells #[.int .i64 E.f0, .int .i64 E.f1, .int .i64 E.f2, .int .i64 E.f3] 24) := ⟨_, rfl⟩
  have AL : Below w2.heap.size w2 V2 := by rw [hV]; exact (Below.refl _ _).alloc (Nat.le_refl _) _
  have bV := b2.trans (AL.mono b2.size)
  have PV2 := hide (show Bx V2 w2.heap.size (windowC E) by rw [hV]; exact Bx.new w2 _ _)
  replace PV1 := hide ((unhide PV1).below bV)
  have B2 := hide ((unhide B1).trans (bV.mono (unhide B1).size))
  have HV := hide hV
  clear hV AL bV b2 B1
  go_upto_region 5 with fail
  rw [← unhide HV]
  clear HV
  have z1 := (unhide PV1).cv
  have z1l := (unhide PV1).lt
  go_wp2_with fail
  refine (unhide H3 _).mono ?_
  rintro e w3 ⟨rfl, b3⟩
  clear z1 z1l
  obtain ⟨V3, hV⟩ : ∃ V, V = w3.alloc (.cells #[.int .i64 E.f0, .int .i64 E.f1, .int .i64 E.f2, .int .i64 E.f3] 24) := ⟨_, rfl⟩
  have AL : Below w3.heap.size w3 V3 := by rw [hV]; exact (Below.refl _ _).alloc (Nat.le_refl _) _
  have bV := b3.trans (AL.mono b3.size)
  have PV3 := hide (show Bx V3 w3.heap.size (windowC E) by rw [hV]; exact Bx.new w3 _ _)
  replace PV1 := hide ((unhide PV1).below bV)
  replace PV2 := hide ((unhide PV2).below bV)
  have B3 := hide ((unhide B2).trans (bV.mono (unhide B2).size))
  have HV := hide hV
  clear hV AL bV b3 B2
  go_upto_region 6 with fail
  rw [← unhide HV]
  clear HV
  have x1 := (unhide PV1).cv
  have x1l := (unhide PV1).lt
  have x2 := (unhide PV2).cv
  have x2l := (unhide PV2).lt
  have x3 := (unhide PV3).cv
  have x3l := (unhide PV3).lt
  go_upto_if 56 with fail
  go_cut [] (fun wx => Hid (Below w.heap.size w wx))
  case first =>
    cases r with
    | false =>
      go_wp2
      go_meet
      exact B3
    | true =>
      have hab := (unhide HRR).symm
      obtain ⟨g1, g2, g3, g5⟩ := ab_parts hab
      obtain ⟨⟨d00, d01⟩, ⟨d10, d11⟩, ⟨d20, d21⟩, ⟨d30, d31⟩⟩ := wg_in g1
      obtain ⟨m0, m1⟩ := wiB_yes g2
      obtain ⟨e1, e2, e3, e4, e5⟩ := ab_facts hab
      have hE := unhide HEE
      have eT : abD D n t true = ⟨abS D n t, D.f1, D.f2, D.f3 - n⟩ := rfl
      rw [eT] at hE
      generalize abS D n t = S at *
      obtain ⟨f0, f1, f2, f3⟩ := D
      dsimp only at d00 d01 d10 d11 d20 d21 d30 d31 hE g5 e1 e3 e4 e5
      subst hE
      have hg : wgB ⟨S, f1, f2, f3 - n⟩ = true := wg_mk (by omega) (by omega) (by omega) (by omega)
      have HG1 := hide (unhide HHG ⟨S, f1, f2, f3 - n⟩ (smW_ok (wg_sm hg)))
      rw [hg] at HG1
      obtain ⟨G, hG⟩ : ∃ G, G = S - f0 := ⟨_, rfl⟩
      have ws : IntKind.i64.wrap (S - f0) = G := by rw [IntKind.wrap_i64, hG]; omega
      have hG0 : ¬ G < 0 := by omega
      clear hab g1 g2 g3 hg HRR HEE eT H2 H3 HHP HC1
      by_cases ht2 : f2 < t
      · by_cases hs : f0 < f1
        · rcases e4 ht2 hs with h9 | h9
          · have hgn : G = n := by omega
            have hs9 : S = f0 + n := h9
            clear h9
            subst hgn
            subst hs9
            have HFF := hide hG
            clear hG e1 e2 e3 e4 e5
            go_wp2_with fail
            refine (unhide HG1 _).mono ?_
            rintro e w5 ⟨rfl, b5⟩
            have x51 := ((unhide PV1).below b5).cv
            have x51l := ((unhide PV1).below b5).lt
            have x52 := ((unhide PV2).below b5).cv
            have x52l := ((unhide PV2).below b5).lt
            have B5 := hide ((unhide B3).trans (b5.mono (unhide B3).size))
            clear b5 x1 x1l x2 x2l x3 x3l B3 PV1 PV2 PV3
            go_wp2
            go_meet
            exact B5
          · subst h9
            by_cases hgn : G = n
            · have tg : (G == n) = true := beq_iff_eq.2 hgn
              have HFF := hide hG
              clear hG e1 e2 e3 e4 e5
              go_wp2_with fail
              refine (unhide HG1 _).mono ?_
              rintro e w5 ⟨rfl, b5⟩
              have x51 := ((unhide PV1).below b5).cv
              have x51l := ((unhide PV1).below b5).lt
              have x52 := ((unhide PV2).below b5).cv
              have x52l := ((unhide PV2).below b5).lt
              have B5 := hide ((unhide B3).trans (b5.mono (unhide B3).size))
              clear b5 x1 x1l x2 x2l x3 x3l B3 PV1 PV2 PV3
              go_wp2
              go_meet
              exact B5
            · have tg : (G == n) = false := beq_eq_false_iff_ne.2 hgn
              have HFF := hide hG
              clear hG e1 e2 e3 e4 e5
              go_wp2_with fail
              refine (unhide HG1 _).mono ?_
              rintro e w5 ⟨rfl, b5⟩
              have x51 := ((unhide PV1).below b5).cv
              have x51l := ((unhide PV1).below b5).lt
              have x52 := ((unhide PV2).below b5).cv
              have x52l := ((unhide PV2).below b5).lt
              have B5 := hide ((unhide B3).trans (b5.mono (unhide B3).size))
              clear b5 x1 x1l x2 x2l x3 x3l B3 PV1 PV2 PV3
              go_wp2
              go_meet
              exact B5
        · have h8 := e5 ht2 hs
          rw [← hG] at h8
          have h7 : 0 ≤ G * f0 := Int.mul_nonneg (by omega) (by omega)
          have wm : IntKind.i64.wrap (G * f0) = G * f0 := by rw [IntKind.wrap_i64]; omega
          have wk : IntKind.i64.wrap (1200 * n) = 1200 * n := by rw [IntKind.wrap_i64]; omega
          have t8 : ¬ 1200 * n < G * f0 := by omega
          have H8 := hide (And.intro h8 h7)
          clear h8 h7
          have HFF := hide hG
          clear hG e1 e2 e3 e4 e5
          go_wp2_with fail
          refine (unhide HG1 _).mono ?_
          rintro e w5 ⟨rfl, b5⟩
          have x51 := ((unhide PV1).below b5).cv
          have x51l := ((unhide PV1).below b5).lt
          have x52 := ((unhide PV2).below b5).cv
          have x52l := ((unhide PV2).below b5).lt
          have B5 := hide ((unhide B3).trans (b5.mono (unhide B3).size))
          clear b5 x1 x1l x2 x2l x3 x3l B3 PV1 PV2 PV3
          go_wp2
          go_meet
          exact B5
      · have hs9 : S = f0 := e3 ht2
        have hgz : G = 0 := by omega
        subst hs9
        subst hgz
        have HFF := hide hG
        clear hG e1 e2 e3 e4 e5
        go_wp2_with fail
        refine (unhide HG1 _).mono ?_
        rintro e w5 ⟨rfl, b5⟩
        have x51 := ((unhide PV1).below b5).cv
        have x51l := ((unhide PV1).below b5).lt
        have x52 := ((unhide PV2).below b5).cv
        have x52l := ((unhide PV2).below b5).lt
        have B5 := hide ((unhide B3).trans (b5.mono (unhide B3).size))
        clear b5 x1 x1l x2 x2l x3 x3l B3 PV1 PV2 PV3
        go_wp2
        go_meet
        exact B5
  case rest =>
  obtain ⟨w4, hw4⟩ : ∃ V, V = wc := ⟨_, rfl⟩
  rw [← hw4] at hcut ⊢
  have B4 := hcut
  clear hw4 hcut x1 x1l x2 x2l x3 x3l PV1 PV2 PV3 B3 H2 H3 HRR HEE HHA OD ON
  go_wp2_with fail
  refine (drawPW_any a1 n1 c1 _ (by omega) ((unhide HC1).below (unhide B4))).mono ?_
  rintro e w5 ⟨b, c, L, rfl, hL, sG, r5, b5⟩
  have B5 := hide ((unhide B4).trans (b5.mono (unhide B4).size))
  have HP5 := hide (fun W (h : Rd growK W b L) => unhide HHP L (by omega) (fun i hi => by
    have h9 := sG _ (gt_mem growK L i hi)
    unfold smG at h9
    unfold okGrow okI
    omega) W b c h)
  have HS5 := hide (fun W (h : Rd growK W b L) => specPW L (by omega) W b c h)
  have R5 := hide r5
  have GE : Hid (∀ x ∈ pwL L (pwB L), 2400 ≤ x ∧ x ≤ 100000000) := by
    intro x hx
    cases h : pwB L with
    | false => rw [h] at hx; cases hx
    | true => rw [h] at hx; exact pwS_ge L nwD nw_good x hx
  have GW : Hid (pwB L = true → wgB (pwD L (pwB L)) = true) := fun h => by rw [h]; exact fold_good L nwD nw_good
  have hA : (pwL L (pwB L)).length ≤ 1000 := by
    cases h : pwB L with
    | false => exact Nat.zero_le _
    | true => show (pwS nwD L).length ≤ 1000; rw [pwS_len]; omega
  clear r5 b5 B4 sG
  unfold PWP at HP5 HS5
  generalize pwD L (pwB L) = E5 at *
  generalize pwL L (pwB L) = A5 at *
  generalize pwB L = r5 at *
  go_wp2_with fail
  refine (unhide HP5 _ (unhide R5)).mono ?_
  rintro e w6 ⟨a6, c6, g6, rfl, i6, b6⟩
  obtain ⟨V6, hV⟩ : ∃ V, V = w6.alloc (.cells #[.int .i64 E5.f0, .int .i64 E5.f1, .int .i64 E5.f2, .int .i64 E5.f3] 24) := ⟨_, rfl⟩
  have AL : Below w6.heap.size w6 V6 := by rw [hV]; exact (Below.refl _ _).alloc (Nat.le_refl _) _
  have bV := b6.trans (AL.mono b6.size)
  have P6 := hide (show Bx V6 w6.heap.size (windowC E5) by rw [hV]; exact Bx.new w6 _ _)
  have B6 := hide ((unhide B5).trans (bV.mono (unhide B5).size))
  have S6 := hide ((i6.below AL).rd)
  replace R5 := hide ((unhide R5).below bV)
  have HV := hide hV
  clear hV AL bV b6 i6 B5 HP5
  go_upto_region 18 with fail
  rw [← unhide HV]
  clear HV
  go_wp2_with fail
  refine (unhide HS5 _ (unhide R5)).mono ?_
  rintro e w7 ⟨a7, c7, g7, rfl, i7, b7⟩
  obtain ⟨V7, hV⟩ : ∃ V, V = w7.alloc (.cells #[.int .i64 E5.f0, .int .i64 E5.f1, .int .i64 E5.f2, .int .i64 E5.f3] 24) := ⟨_, rfl⟩
  have AL : Below w7.heap.size w7 V7 := by rw [hV]; exact (Below.refl _ _).alloc (Nat.le_refl _) _
  have bV := b7.trans (AL.mono b7.size)
  have P7 := hide ((unhide P6).below bV)
  have B7 := hide ((unhide B6).trans (bV.mono (unhide B6).size))
  have S7 := hide ((unhide S6).below bV)
  have T7 := hide ((i7.below AL).rd)
  have HV := hide hV
  clear hV AL bV b7 i7 B6 P6 S6 R5 HS5
  go_upto_region 19 with fail
  rw [← unhide HV]
  clear HV
  have HQ := hide (fun W (h : Rd intK W a6 A5) (h' : Rd intK W a7 A5) => sameI_same a6 a7 c6 c7 A5 W (by omega) h h')
  go_wp2_with fail
  refine (unhide HQ _ (unhide S7) (unhide T7)).mono ?_
  rintro e w8 ⟨rfl, b8⟩
  have P8 := hide ((unhide P7).below b8)
  have S8 := hide ((unhide S7).below b8)
  have B8 := hide ((unhide B7).trans (b8.mono (unhide B7).size))
  clear b8 P7 S7 T7 B7 HQ
  go_wp2_with fail
  go_loopw [145] (fun iv wr => ∃ k : Nat, k ≤ A5.length ∧ iv = .int .i64 k ∧ wr = w8) (fun iv _ => A5.length - (intOf iv).toNat)
  case atStart => exact ⟨0, Nat.zero_le _, rfl, rfl⟩
  case round =>
    obtain ⟨k, hk, rfl, hwr⟩ := hrel
    rw [hwr]
    clear hwr wr
    by_cases hlt : k < A5.length
    · rcases unhide S8 with h9 | ⟨b9, o9, rfl, _, hel⟩
      · rw [h9] at hlt; exact absurd hlt (Nat.not_lt_zero _)
      have x9 := int_r hel hlt
      obtain ⟨y0, y1⟩ := unhide GE _ (gt_mem intK A5 k hlt)
      generalize gt intK A5 k = y at *
      have hnk : (k : Int) < (A5.length : Int) := by omega
      have hk0 : (0 : Int) ≤ (k : Int) := by omega
      have ty : ¬ y < 2400 := by omega
      clear hel
      go_wp2
      exact ⟨⟨k + 1, by omega, by go_num, by first | exact rfl | exact trivial⟩, by simp [intOf]; omega⟩
    · have hk9 : ¬ (k : Int) < (A5.length : Int) := by omega
      have p8 := (unhide P8).cv
      have p8l := (unhide P8).lt
      cases r5 with
      | false =>
        go_wp2
        go_ret
        exact ⟨rfl, unhide B8⟩
      | true =>
        have hgw : wgB E5 = true := by first | exact unhide GW rfl | exact unhide GW trivial
        have HG9 := hide (unhide HHG E5 (smW_ok (wg_sm hgw)))
        rw [hgw] at HG9
        clear hgw
        go_wp2_with fail
        refine (unhide HG9 _).mono ?_
        rintro e w9 ⟨rfl, b9⟩
        have B9 := hide ((unhide B8).trans (b9.mono (unhide B8).size))
        clear b9
        go_wp2
        go_ret
        exact ⟨rfl, unhide B9⟩
end Go.Proofs.Ytpjpmlopmknllaa.Rc
