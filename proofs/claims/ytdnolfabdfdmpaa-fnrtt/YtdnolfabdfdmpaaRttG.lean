/-
  The law on round trips, walked out of the program's contracts.
-/
import Derived.Test.YtdnolfabdfdmpaaDrt
namespace Go.Proofs.Ytdnolfabdfdmpaa.Rc
open Go.ChangeShapes Go.WideShapes Go.ChangeAt Go.RowKit Go.Deep
set_option linter.unusedVariables false
set_option maxRecDepth 100000

theorem sml_i {n : Int} (h : -1 ≤ n ∧ n ≤ 1000000001) : okI n := by unfold okI; omega
/-- what a known round trip comes to -/
theorem sm_facts (la0 mi sm va la de : Int) (hD : rtB ⟨true, la0, mi, sm, va⟩ = true) (hl : tkB la = true) (hd : tkB de = true) :
    ∃ m s v, smD ⟨true, la0, mi, sm, va⟩ la de = ⟨true, la, m, s, v⟩ ∧ m ≤ la ∧ (m ≤ la - de → (la - de ≤ s ∨ sm ≤ s) ∧ (s ≤ la ∨ s ≤ sm)) ∧ (¬ m ≤ la - de → (la ≤ s ∨ sm ≤ s) ∧ (s ≤ la ∨ s ≤ sm)) := by
  obtain ⟨l0, l1⟩ := tkB_yes hl
  obtain ⟨d0, d1⟩ := tkB_yes hd
  refine ⟨smMi ⟨true, la0, mi, sm, va⟩ la, (7 * sm + smAd ⟨true, la0, mi, sm, va⟩ la de) / 8, _, rfl, ?_, ?_, ?_⟩
  · unfold smMi; simp only; split <;> omega
  · intro h
    have e : smAd ⟨true, la0, mi, sm, va⟩ la de = la - de := by unfold smAd; rw [if_pos h]
    rw [e]
    omega
  · intro h
    have e : smAd ⟨true, la0, mi, sm, va⟩ la de = la := by unfold smAd; rw [if_neg h]
    rw [e]
    omega
theorem pt_next (D : RttD) (de tr : Int) (h0 : -1 ≤ tr) (h : ptB D de (tr + 1) = true) : (ptB D de tr = true ∧ ptN D de (tr + 1) true = 2 * ptN D de tr true) ∨ (ptB D de tr = false ∧ tr < 0) := by
  unfold ptB at h
  simp only [Bool.and_eq_true, decide_eq_true_eq] at h
  obtain ⟨a, b, c, d⟩ := h
  by_cases ht : 0 ≤ tr
  · left
    refine ⟨?_, ?_⟩
    · unfold ptB
      rw [a, b]
      simp
      omega
    · show ptF D de * 2 ^ (tr + 1).toNat = 2 * (ptF D de * 2 ^ tr.toNat)
      rw [show (tr + 1).toNat = tr.toNat + 1 by omega, Int.pow_succ]
      rw [← Int.mul_assoc, Int.mul_comm _ 2]
  · right
    refine ⟨?_, by omega⟩
    unfold ptB
    rw [decide_eq_false ht]
    simp
theorem ptN_le (D : RttD) (de tr : Int) (r : Bool) (h : ptB D de tr = true) : 0 ≤ ptN D de tr r ∧ ptN D de tr r ≤ 100000000000000 := by
  unfold ptB at h
  simp only [Bool.and_eq_true, decide_eq_true_eq] at h
  obtain ⟨a, b, c, d⟩ := h
  cases r with
  | false =>
    show (0 : Int) ≤ 0 ∧ (0 : Int) ≤ 100000000000000
    omega
  | true =>
    have hs := good_sml a
    unfold smlRtt at hs
    have hb := tkB_yes b
    have hf : 0 ≤ ptF D de ∧ ptF D de ≤ 10000000000 := by
      unfold ptF ptV
      by_cases hk : D.kn = true
      · have a2 := a
        unfold rtB at a2
        rw [if_pos hk] at a2
        simp only [Bool.and_eq_true, decide_eq_true_eq] at a2
        have := tkB_yes a2.2.2.1
        have := tkB_yes a2.2.2.2
        rw [if_pos hk]
        split <;> omega
      · rw [if_neg hk]; omega
    show 0 ≤ ptF D de * 2 ^ tr.toNat ∧ ptF D de * 2 ^ tr.toNat ≤ 100000000000000
    have h : tr.toNat = 0 ∨ tr.toNat = 1 ∨ tr.toNat = 2 ∨ tr.toNat = 3 ∨ tr.toNat = 4 ∨ tr.toNat = 5 ∨ tr.toNat = 6 ∨ tr.toNat = 7 ∨ tr.toNat = 8 ∨ tr.toNat = 9 ∨ tr.toNat = 10 := by omega
    rcases h with h | h | h | h | h | h | h | h | h | h | h <;> (rw [h]; simp only [Int.reducePow]; omega)
set_option maxHeartbeats 8000000 in
theorem rtt_given (a0 : Option Addr) (n0 c0 : Nat) (a1 : Option Addr) (n1 c1 : Nat) (w : World) (hN : n0 + n1 ≤ 1048576) (hC0 : Cd w a0 n0) (hC1 : Cd w a1 n1)
    (H1 : ∀ (D : RttD) (la de : Int), okRtt D → okI la → okI de → ∀ W, Calls Try.prog 5 #[rttV D, .int .i64 la, .int .i64 de] W fun e w' => e = .returned (.tuple #[rttV (srD D la de (srB D la de)), .bool (srB D la de)]) ∧ Below W.heap.size W w')
    (H2 : ∀ (D : RttD) (de tr : Int), okRtt D → okI de → okI tr → ∀ W, Calls Try.prog 8 #[rttV D, .int .i64 de, .int .i64 tr] W fun e w' => e = .returned (.tuple #[.int .i64 (ptN D de tr (ptB D de tr)), .bool (ptB D de tr)]) ∧ Below W.heap.size W w') :
    Calls Try.prog 3 #[.slice a0 n0 c0, .slice a1 n1 c1] w fun e w' => e = .returned (.bool true) ∧ Below w.heap.size w w' := by
  have C0 := hide hC0
  have C1 := hide hC1
  have HA := hide H1
  have HB := hide H2
  clear hC0 hC1 H1 H2
  have hI : ¬ (1048576 : Int) < (n0 : Int) + (n1 : Int) := by omega
  go_enter Try.func3, Try.ntmps3
  go_wp2_with fail
  refine (drawSR_any a0 n0 c0 _ (by omega) (unhide C0)).mono ?_
  rintro e w1 ⟨D, la, de, rfl, hs, hla, hde, b1⟩
  have P1 := hide (unhide HA D la de (sml_ok hs) (sml_i hla) (sml_i ⟨by omega, by omega⟩))
  have S1 := hide (specSR D la de)
  have C2 := hide ((unhide C1).below b1)
  have J1 : Hid (Iv w w1 w1 []) := ⟨b1, Below.refl _ _, fun p hp => by cases hp⟩
  obtain ⟨V1, hV1⟩ : ∃ V, V = w1.alloc (.cells #[.bool D.kn, .int .i64 D.la, .int .i64 D.mi, .int .i64 D.sm, .int .i64 D.va] 24) := ⟨_, rfl⟩
  have J2 := hide (show Iv w w1 V1 [(w1.heap.size, rttC D)] by rw [hV1]; exact Iv.push (unhide J1) (rttC D) _)
  have HV1 := hide hV1
  have HLA := hide (And.intro hla hde)
  clear hV1 b1 C0 C1 J1 hs
  go_wp2_with fail
  rw [← unhide HV1]
  clear HV1
  refine (unhide P1 _).mono ?_
  rintro e w2 ⟨rfl, b2⟩
  have J3 := hide ((unhide J2).below b2)
  obtain ⟨E, hE⟩ : ∃ E, srD D la de (srB D la de) = E := ⟨_, rfl⟩
  obtain ⟨r, hr⟩ : ∃ r, srB D la de = r := ⟨_, rfl⟩
  rw [hE, hr] at S1
  rw [hE, hr]
  have HE := hide (And.intro hE hr)
  clear hE hr b2 J2 P1
  obtain ⟨V2, hV2⟩ : ∃ V, V = w2.alloc (.cells #[.bool E.kn, .int .i64 E.la, .int .i64 E.mi, .int .i64 E.sm, .int .i64 E.va] 24) := ⟨_, rfl⟩
  have J4 := hide (show Iv w w1 V2 [(w2.heap.size, rttC E), (w1.heap.size, rttC D)] by rw [hV2]; exact Iv.push (unhide J3) (rttC E) _)
  have x2 := ((unhide J3).bx _ (List.mem_cons_self)).cv
  have k2 := ((unhide J3).bx _ (List.mem_cons_self)).lt
  have HV2 := hide hV2
  clear hV2 J3
  go_wp2_with fail
  rw [← unhide HV2]
  clear HV2 x2 k2
  refine (unhide S1 _).mono ?_
  rintro e w3 ⟨rfl, b3⟩
  have J5 := hide ((unhide J4).below b3)
  clear b3 J4 S1
  obtain ⟨V3, hV3⟩ : ∃ V, V = w3.alloc (.cells #[.bool E.kn, .int .i64 E.la, .int .i64 E.mi, .int .i64 E.sm, .int .i64 E.va] 24) := ⟨_, rfl⟩
  have J6 := hide (show Iv w w1 V3 [(w3.heap.size, rttC E), (w2.heap.size, rttC E), (w1.heap.size, rttC D)] by rw [hV3]; exact Iv.push (unhide J5) (rttC E) _)
  have HV3 := hide hV3
  clear hV3 J5
  go_upto_region 6 with fail
  rw [← unhide HV3]
  clear HV3
  have xw := ((unhide J6).bx _ (List.mem_cons_self)).cv
  have xg := ((unhide J6).bx _ (List.mem_cons_of_mem _ (List.mem_cons_self))).cv
  have xr := ((unhide J6).bx _ (List.mem_cons_of_mem _ (List.mem_cons_of_mem _ (List.mem_cons_self)))).cv
  have C3 := hide ((unhide C2).below (unhide J6).b3)
  go_upto_if 57 with fail
  go_cut [12, 13] (fun _ _ wx => wx = V3)
  case first =>
    cases r with
    | false =>
      clear C2 C3 HA HB
      go_wp2
      go_meet
      exact rfl
    | true =>
      obtain ⟨hE, hr⟩ := unhide HE
      obtain ⟨⟨hla1, hla2⟩, hde1, hde2⟩ := unhide HLA
      unfold srB at hr
      simp only [Bool.and_eq_true] at hr
      obtain ⟨g0, g1, g2⟩ := hr
      obtain ⟨l0, l1⟩ := tkB_yes g1
      have hE2 : smD D la de = E := by
        rw [← hE]
        unfold srB
        rw [g0, g1, g2]
        rfl
      obtain ⟨kn, pl, mi, sm, va⟩ := D
      cases kn with
      | false =>
        have e9 : E = ⟨true, la, la, la, la / 2⟩ := hE2.symm
        subst e9
        clear hE hE2 g0 g1 g2 HE HLA C2 C3 HA HB
        by_cases h1 : la ≤ la - de
        · have t1 : ¬ la < la - de := by omega
          go_wp2
          go_meet
          exact rfl
        · go_wp2
          go_meet
          exact rfl
      | true =>
        obtain ⟨m, s', v, hm, hm1, f1, f2⟩ := sm_facts pl mi sm va la de g0 g1 g2
        have e9 : E = ⟨true, la, m, s', v⟩ := hE2.symm.trans hm
        have gs := good_sml g0
        unfold smlRtt at gs
        simp only at gs
        obtain ⟨_, _, ⟨s0, s1⟩, _⟩ := gs
        have t0 : ¬ la < m := by omega
        subst e9
        clear hE hE2 hm g0 g1 g2 HE HLA C2 C3 HA HB
        by_cases h1 : m ≤ la - de
        · have f := f1 h1
          clear f1 f2
          by_cases h2 : sm < la - de
          · by_cases h3 : la < sm
            · omega
            · have t1 : ¬ s' < sm := by omega
              have t2 : ¬ la < s' := by omega
              clear f
              go_wp2
              go_meet
              exact rfl
          · have t1 : ¬ s' < la - de := by omega
            by_cases h3 : la < sm
            · have t2 : ¬ sm < s' := by omega
              clear f
              go_wp2
              go_meet
              exact rfl
            · have t2 : ¬ la < s' := by omega
              clear f
              go_wp2
              go_meet
              exact rfl
        · have f := f2 h1
          clear f1 f2
          by_cases h2 : sm < la
          · have h3 : ¬ la < sm := by omega
            have t1 : ¬ s' < sm := by omega
            have t2 : ¬ la < s' := by omega
            clear f
            go_wp2
            go_meet
            exact rfl
          · have t1 : ¬ s' < la := by omega
            by_cases h3 : la < sm
            · have t2 : ¬ sm < s' := by omega
              clear f
              go_wp2
              go_meet
              exact rfl
            · have t2 : ¬ la < s' := by omega
              clear f
              go_wp2
              go_meet
              exact rfl
  case rest =>
    subst hcut
    clear xw xg xr HE HLA C2 HA
    have BB := hide (unhide J6).b0
    clear J6
    go_wp2_with fail
    refine (drawPT_any a1 n1 c1 _ (by omega) (unhide C3)).mono ?_
    rintro e w4 ⟨D2, d2, tr, rfl, hs, hd, ht, b4⟩
    have P2 := hide (unhide HB D2 d2 tr (sml_ok hs) (sml_i ⟨by omega, by omega⟩) (sml_i ⟨by omega, by omega⟩))
    have P3 := hide (unhide HB D2 d2 (tr + 1) (sml_ok hs) (sml_i ⟨by omega, by omega⟩) (sml_i ⟨by omega, by omega⟩))
    have S2 := hide (specPT D2 d2 tr)
    have HN := hide (fun h => pt_next D2 d2 tr ht.1 h)
    have HL := hide (fun r h => ptN_le D2 d2 tr r h)
    have HZ : Hid (ptB D2 d2 tr = false → ptN D2 d2 tr (ptB D2 d2 tr) = 0) := fun h => by rw [h]; rfl
    have B4 := hide ((unhide BB).trans (b4.mono (unhide BB).size))
    have J7 : Hid (Iv w w4 w4 []) := ⟨unhide B4, Below.refl _ _, fun p hp => by cases hp⟩
    obtain ⟨V4, hV4⟩ : ∃ V, V = w4.alloc (.cells #[.bool D2.kn, .int .i64 D2.la, .int .i64 D2.mi, .int .i64 D2.sm, .int .i64 D2.va] 24) := ⟨_, rfl⟩
    have J8 := hide (show Iv w w4 V4 [(w4.heap.size, rttC D2)] by rw [hV4]; exact Iv.push (unhide J7) (rttC D2) _)
    have HV4 := hide hV4
    have ht1 : IntKind.i64.wrap (tr + 1) = tr + 1 := by rw [IntKind.wrap_i64]; omega
    clear hV4 b4 BB B4 J7 C3 HB hs hd
    go_wp2_with fail
    rw [← unhide HV4]
    clear HV4
    refine (unhide P2 _).mono ?_
    rintro e w5 ⟨rfl, b5⟩
    have J9 := hide ((unhide J8).below b5)
    have x9 := ((unhide J9).bx _ (List.mem_cons_self)).cv
    clear b5 J8 P2
    go_wp2_with fail
    refine (unhide S2 _).mono ?_
    rintro e w6 ⟨rfl, b6⟩
    have J10 := hide ((unhide J9).below b6)
    have x10 := ((unhide J10).bx _ (List.mem_cons_self)).cv
    clear b6 J9 S2 x9
    go_wp2_with fail
    refine (unhide P3 _).mono ?_
    rintro e w7 ⟨rfl, b7⟩
    have B7 := hide ((unhide J10).b0.trans (b7.mono (unhide J10).b0.size))
    clear b7 J10 P3 x10
    cases h2 : ptB D2 d2 (tr + 1) with
    | false =>
      clear HN HL HZ
      go_wp2
      go_ret
      exact ⟨rfl, unhide B7⟩
    | true =>
      rcases unhide HN h2 with ⟨h1, he⟩ | ⟨h1, hlt⟩
      · have hb := unhide HL true h1
        obtain ⟨hb1, hb2⟩ := hb
        rw [h1, he]
        generalize ptN D2 d2 tr true = p at *
        have t1 : IntKind.i64.wrap (2 * p) = 2 * p := by rw [IntKind.wrap_i64]; omega
        clear HN HL HZ h1 h2 he
        go_wp2
        go_ret
        exact ⟨rfl, unhide B7⟩
      · rw [h1]
        clear HN HL HZ h1 h2
        go_wp2
        go_ret
        exact ⟨rfl, unhide B7⟩
end Go.Proofs.Ytdnolfabdfdmpaa.Rc
