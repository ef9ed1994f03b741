/-
  Contracts: how long is waited, TakeAck of the model.
-/
import Derived.Test.YtccfbkpelehldaaTap
import Derived.Test.YtccfbkpelehldaaLps
import Derived.Deep.RegionLaw
import Derived.Deep.DeepCutAuto
namespace Go.Proofs.Ytccfbkpelehldaa.Rc
open Go.ChangeShapes Go.WideShapes Go.ChangeAt Go.RowKit Go.Deep
set_option linter.unusedVariables false
set_option maxRecDepth 100000

/-- how old a lost packet is, -1 where that is not known -/
def wuI (r : RttD) : Int := if r.kn = true then wtI r else -1
set_option maxHeartbeats 2000000 in
theorem specWt (r : RttD) (w : World) (h : rtB r = true) : Calls Try.prog 30 #[rttV r] w fun e w' => e = .returned (.int .i64 (wuI r)) ∧ Below w.heap.size w w' := by
  obtain ⟨s0, s1, l0, l1⟩ := rt_in h
  have B0 := hide ((Below.refl w.heap.size w).alloc (Nat.le_refl _) (.cells (rttC r).toArray 25))
  obtain ⟨kn, la, mi, sm, va⟩ := r
  dsimp only at s0 s1 l0 l1
  clear h
  cases kn with
  | false =>
    go_enter Try.func30, Try.ntmps30
    go_wp2
    go_ret
    exact ⟨rfl, unhide B0⟩
  | true =>
    have HE : Hid (∀ m : Int, m = mxI sm la → wuI ⟨true, la, mi, sm, va⟩ = mxI (m * 9 / 8) 1) := fun m h => by rw [h]; rfl
    by_cases h1 : sm < la
    · have HE2 := hide (unhide HE la (by unfold mxI; rw [if_pos h1]))
      have d1 : Int.tdiv (la * 9) 8 = la * 9 / 8 := Int.tdiv_eq_ediv_of_nonneg (by omega)
      clear HE
      by_cases h2 : la * 9 / 8 < 1
      · exfalso; omega
      · have e9 : mxI (la * 9 / 8) 1 = la * 9 / 8 := by unfold mxI; rw [if_neg h2]
        rw [e9] at HE2
        clear e9
        go_enter Try.func30, Try.ntmps30
        go_wp2
        go_ret
        exact ⟨by rw [unhide HE2]; rfl, unhide B0⟩
    · have HE2 := hide (unhide HE sm (by unfold mxI; rw [if_neg h1]))
      have d1 : Int.tdiv (sm * 9) 8 = sm * 9 / 8 := Int.tdiv_eq_ediv_of_nonneg (by omega)
      clear HE
      by_cases h2 : sm * 9 / 8 < 1
      · have e9 : mxI (sm * 9 / 8) 1 = 1 := by unfold mxI; rw [if_pos h2]
        rw [e9] at HE2
        clear e9
        go_enter Try.func30, Try.ntmps30
        go_wp2
        go_ret
        exact ⟨by rw [unhide HE2]; rfl, unhide B0⟩
      · have e9 : mxI (sm * 9 / 8) 1 = sm * 9 / 8 := by unfold mxI; rw [if_neg h2]
        rw [e9] at HE2
        clear e9
        go_enter Try.func30, Try.ntmps30
        go_wp2
        go_ret
        exact ⟨by rw [unhide HE2]; rfl, unhide B0⟩
theorem wu_in {r : RttD} (h : rtB r = true) : -1 ≤ wuI r ∧ wuI r ≤ 2000000000 := by
  obtain ⟨s0, s1, l0, l1⟩ := rt_in h
  unfold wuI wtI mxI
  split
  · split <;> split <;> omega
  · omega
theorem lo_alt {r : RttD} (h : rtB r = true) (lg now : Int) (x : SentD) : loB lg now r x = (decide (x.f0 < lg) && (decide (x.f0 ≤ lg - 3) || (decide (0 ≤ wuI r) && decide (x.f1 ≤ now - wuI r)))) := by
  obtain ⟨s0, s1, l0, l1⟩ := rt_in h
  have hw : 1 ≤ wtI r := by unfold wtI mxI; split <;> split <;> omega
  unfold loB wuI
  cases r.kn with
  | false => simp
  | true => rw [if_pos rfl, decide_eq_true (show 0 ≤ wtI r by omega)]
set_option maxHeartbeats 16000000 in
theorem specTAo (D : SpaceD) (L : List RangeD) (now de : Int) (hn : D.S.length ≤ 1048576) (hm : L.length ≤ 1048576) (ho : rgO L) (W : World) (a : Option Addr) (c : Nat) (aL : Option Addr) (cL : Nat) (h : RdSpace W a D) (hL : Rd rangeK W aL L) :
    Calls Try.prog 6 #[spaceV D a c, .slice aL L.length cL, .int .i64 now, .int .i64 de] W (TAPo D L now de W) := by
  obtain ⟨V0, hV0⟩ : ∃ V, V = (W.alloc (.cells (spaceC D a c).toArray 27)).alloc (.cells spaceZ.toArray 27) := ⟨_, rfl⟩
  have A0 := hide (show Bx V0 W.heap.size (spaceC D a c) by rw [hV0]; exact (Bx.new W _ _).alloc _)
  have R0 := hide (show Bx V0 (W.heap.size + 1) spaceZ by rw [hV0]; exact Bx.newAt (W.alloc _) _ _ _ (by simp))
  have B0 := hide (show Below W.heap.size W V0 by rw [hV0]; exact ((Below.refl W.heap.size W).alloc (Nat.le_refl _) _).alloc (by simp) _)
  have HG := hide (fun V (b : Below W.heap.size W V) => specGS D a c V hn (h.below b))
  have HL := hide (fun V (b : Below W.heap.size W V) => specGR aL cL L V hm ho (hL.below b))
  have HA := hide (fun V (b : Below W.heap.size W V) => specLa D a c V hn (h.below b))
  have HH := hide (fun V (b : Below W.heap.size W V) n => specHs aL cL L n V hm (hL.below b))
  have HR := hide (fun V (b : Below W.heap.size W V) => h.below b)
  have HRL := hide (fun V (b : Below W.heap.size W V) => hL.below b)
  have HT1 := hide (specTk now)
  have HT2 := hide (specTk de)
  have NO : Hid (∀ V, taB D L now de = false → Below W.heap.size W V → TAPo D L now de W (.returned (.tuple #[.agg spaceZ.toArray, .slice none 0 0, .slice none 0 0, .bool false])) V) := fun V h b => TAPo.no h b
  have hta : Hid (taB D L now de = (gsB D && (grB L && (decide (L.length ≠ 0) && (tkB now && (decide ((laS D.S).f1 ≤ now) && tkB de)))))) := rfl
  have HV0 := hide hV0
  have HO := hide ho
  have a0 := (unhide A0).cv
  clear h hL hV0 ho
  go_enter Try.func6, Try.ntmps6
  go_upto_region 1 with fail
  rw [← unhide HV0]
  clear HV0
  go_wp2_with fail
  refine (unhide HG _ (unhide B0)).mono ?_
  rintro e w1 ⟨rfl, b1⟩
  have A1 := hide ((unhide A0).below b1)
  have R1 := hide ((unhide R0).below b1)
  have B1 := hide ((unhide B0).trans (b1.mono (unhide B0).size))
  clear b1 A0 R0 B0 a0
  cases hg : gsB D with
  | false =>
    have HE : Hid (taB D L now de = false) := by show _ = _; rw [unhide hta, hg]; rfl
    clear HG HL HA HH HR HRL HT1 HT2 hta HO A1 hg
    have r2 := (unhide R1).cv
    have r2f := (unhide R1).fz
    have r2l := (unhide R1).lt
    go_wp2
    refine bodyPost_ret (v := .tuple #[.agg spaceZ.toArray, .slice none 0 0, .slice none 0 0, .bool false]) (by simp [results, Try.results6, go_sem, r2]) rfl (unhide NO _ (unhide HE) ?_)
    iterate 7 refine Below.setCell ?_ (by simp <;> omega) _
    exact unhide B1
  | true =>
  rw [hg] at hta
  have a1 := (unhide A1).cv
  go_wp2_with fail
  refine (unhide HL _ (unhide B1)).mono ?_
  rintro e w2 ⟨rfl, b2⟩
  have A2 := hide ((unhide A1).below b2)
  have R2 := hide ((unhide R1).below b2)
  have B2 := hide ((unhide B1).trans (b2.mono (unhide B1).size))
  clear b2 A1 R1 B1 a1
  cases hr : grB L with
  | false =>
    have HE : Hid (taB D L now de = false) := by show _ = _; rw [unhide hta, hr]; rfl
    clear HG HL HA HH HR HRL HT1 HT2 hta HO A2 hg hr
    have r2 := (unhide R2).cv
    have r2f := (unhide R2).fz
    have r2l := (unhide R2).lt
    go_wp2
    refine bodyPost_ret (v := .tuple #[.agg spaceZ.toArray, .slice none 0 0, .slice none 0 0, .bool false]) (by simp [results, Try.results6, go_sem, r2]) rfl (unhide NO _ (unhide HE) ?_)
    iterate 7 refine Below.setCell ?_ (by simp <;> omega) _
    exact unhide B2
  | true =>
  rw [hr] at hta
  by_cases h0 : L.length = 0
  · have t0 : ((L.length : Int) == 0) = true := beq_iff_eq.2 (by omega)
    have HE : Hid (taB D L now de = false) := by show _ = _; rw [unhide hta, h0]; rfl
    clear HG HL HA HH HR HRL HT1 HT2 hta HO A2 hg hr h0
    have r2 := (unhide R2).cv
    have r2f := (unhide R2).fz
    have r2l := (unhide R2).lt
    go_wp2
    refine bodyPost_ret (v := .tuple #[.agg spaceZ.toArray, .slice none 0 0, .slice none 0 0, .bool false]) (by simp [results, Try.results6, go_sem, r2]) rfl (unhide NO _ (unhide HE) ?_)
    iterate 7 refine Below.setCell ?_ (by simp <;> omega) _
    exact unhide B2
  have t0 : ((L.length : Int) == 0) = false := beq_eq_false_iff_ne.2 (by omega)
  rw [decide_eq_true h0] at hta
  cases hk : tkB now with
  | false =>
    rw [hk] at HT1
    have HE : Hid (taB D L now de = false) := by show _ = _; rw [unhide hta, hk]; rfl
    clear HG HL HA HH HR HRL HT2 hta HO A2 hg hr hk h0
    have r2 := (unhide R2).cv
    have r2f := (unhide R2).fz
    have r2l := (unhide R2).lt
    go_wp2_with (go_at_call 26; refine (unhide HT1 _).mono ?_; rintro e w9 ⟨rfl, h9⟩; rw [h9]; clear h9 w9)
    refine bodyPost_ret (v := .tuple #[.agg spaceZ.toArray, .slice none 0 0, .slice none 0 0, .bool false]) (by simp [results, Try.results6, go_sem, r2]) rfl (unhide NO _ (unhide HE) ?_)
    iterate 7 refine Below.setCell ?_ (by simp <;> omega) _
    exact unhide B2
  | true =>
  rw [hk] at hta HT1
  have a2 := (unhide A2).cv
  go_wp2_with fail
  refine (unhide HT1 _).mono ?_
  rintro e w9 ⟨rfl, h9⟩
  rw [h9]
  clear h9 w9
  go_wp2_with fail
  refine (unhide HA _ (unhide B2)).mono ?_
  rintro e w3 ⟨rfl, b3⟩
  have A3 := hide ((unhide A2).below b3)
  have R3 := hide ((unhide R2).below b3)
  have B3 := hide ((unhide B2).trans (b3.mono (unhide B2).size))
  clear b3 A2 R2 B2 a2
  obtain ⟨la0, la1, la2, hla⟩ : ∃ x y z, laS D.S = ⟨x, y, z⟩ := ⟨_, _, _, rfl⟩
  rw [hla] at hta
  have HLA := hide hla
  rw [hla]
  clear hla
  have ff : ∀ (w : World), (Instr.field 37 (.agg #[.int .i64 la0, .int .i64 la1, .int .i64 la2]) 1).run Try.prog w = .ok (.int .i64 la1) w := fun w => by first | rfl | kernel_rfl
  by_cases hl : la1 ≤ now
  · have t1 : decide (now < la1) = false := decide_eq_false (by omega)
    have e1 : decide ((⟨la0, la1, la2⟩ : SentD).f1 ≤ now) = true := decide_eq_true hl
    rw [e1] at hta
    clear e1
    cases hd : tkB de with
    | false =>
      rw [hd] at HT2
      have HE : Hid (taB D L now de = false) := by show _ = _; rw [unhide hta, hd]; rfl
      clear HG HL HA HH HR HRL HT1 hta HO A3 hg hr hk h0 hd HLA
      have r2 := (unhide R3).cv
      have r2f := (unhide R3).fz
      have r2l := (unhide R3).lt
      go_wp2_with (go_at_call 26; refine (unhide HT2 _).mono ?_; rintro e w9 ⟨rfl, h9⟩; rw [h9]; clear h9 w9)
      refine bodyPost_ret (v := .tuple #[.agg spaceZ.toArray, .slice none 0 0, .slice none 0 0, .bool false]) (by simp [results, Try.results6, go_sem, r2]) rfl (unhide NO _ (unhide HE) ?_)
      iterate 7 refine Below.setCell ?_ (by simp <;> omega) _
      exact unhide B3
    | true =>
    rw [hd] at hta HT2
    have HE : Hid (taB D L now de = true) := by show _ = _; rw [unhide hta]; rfl
    have YES : Hid (∀ (G : Int) (R : RttD), G = taG D L → R = taR D L now de → ∀ (V : World) (a0 : Option Addr) (c0 : Nat) (a1 : Option Addr) (c1 : Nat) (a2 : Option Addr) (c2 g0 g1 g2 : Nat), Rb sentK W.heap.size V a0 ((lfS L D.S).filter fun x => !loB G now R x) g0 → Rb intK W.heap.size V a1 ((akS L D.S).map fun x => x.f0) g1 → Rb intK W.heap.size V a2 (((lfS L D.S).filter fun x => loB G now R x).map fun x => x.f0) g2 → g0 ≠ g1 → g0 ≠ g2 → g1 ≠ g2 → Below W.heap.size W V → Ro sentK 37 W.heap.size V (.slice a0 ((lfS L D.S).filter fun x => !loB G now R x).length c0) ((lfS L D.S).filter fun x => !loB G now R x) → TAPo D L now de W (.returned (.tuple #[.agg #[.int .i64 G, .slice a0 ((lfS L D.S).filter fun x => !loB G now R x).length c0, .bool R.kn, .int .i64 R.la, .int .i64 R.mi, .int .i64 R.sm, .int .i64 R.va], .slice a1 ((akS L D.S).map fun x => x.f0).length c1, .slice a2 (((lfS L D.S).filter fun x => loB G now R x).map fun x => x.f0).length c2, .bool true])) V) := fun G R hG hR V a0 c0 a1 c1 a2 c2 g0 g1 g2 h0 h1 h2 n0 n1 n2 b ho => by
      subst hG
      subst hR
      exact TAPo.yes (unhide HE) h0 h1 h2 n0 n1 n2 b ho
    clear hta NO HG HL HA
    go_wp2_with fail
    refine (unhide HT2 _).mono ?_
    rintro e w9 ⟨rfl, h9⟩
    rw [h9]
    clear h9 w9 HT1 HT2
    obtain ⟨hS, hlg0, hlg1, h60, hrt⟩ := gs_parts hg
    have HTK : Hid (∀ x ∈ D.S, tkB (now - x.f1) = true) := fun x hx => tick_in hg hk (by rw [unhide HLA]; exact hl) hx
    have HTI : Hid (∀ x ∈ D.S, 0 ≤ x.f1 ∧ 0 ≤ x.f0 ∧ x.f0 ≤ 4611686018427387903 ∧ x.f1 ≤ now) := fun x hx => by
      have := time_in hS hx
      rw [unhide HLA] at this
      exact ⟨this.1, this.2.2.1, this.2.2.2, Int.le_trans this.2.1 hl⟩
    have HDE := hide hd
    have HRT := hide hrt
    obtain ⟨n0, n1⟩ := tkB_yes hk
    clear hS hrt hg hr hk hd HLA ff t1 hl
    obtain ⟨bL, oL, rfl, hLt, hel⟩ : ∃ b o, aL = some ⟨b, o, none⟩ ∧ b < w3.heap.size ∧ ∀ q, q < L.length * rangeK.m → w3.cell? ⟨b, o + q, none⟩ = some (cl rangeK L q) := by
      rcases unhide HRL w3 (unhide B3) with h9 | h9
      · rw [h9] at h0; exact absurd rfl h0
      · exact h9
    have x1 := range_r1 hel (show 0 < L.length by omega)
    rw [Nat.zero_mul, Nat.add_zero] at x1
    have hLl : (0 : Int) < (L.length : Int) := by omega
    have hLo := (unhide HO 0 (by omega))
    obtain ⟨⟨_, _⟩, u2, u3⟩ : (-9223372036854775808 ≤ (gt rangeK L 0).f0 ∧ (gt rangeK L 0).f0 ≤ 9223372036854775807) ∧ (-9223372036854775808 ≤ (gt rangeK L 0).f1 ∧ (gt rangeK L 0).f1 ≤ 9223372036854775807) := hLo
    have eG : taG D L = mxI D.lg (gt rangeK L 0).f1 := rfl
    have eR : ∀ M, M = akS L D.S → taR D L now de = M.foldl (rtF (gt rangeK L 0).f1 now de) D.r := fun M h => by rw [h]; rfl
    have HEG := hide eG
    have HER := hide eR
    have HX : Hid (∀ V, Below W.heap.size W V → V.cell? ⟨bL, oL + 1, none⟩ = some (.int .i64 (gt rangeK L 0).f1)) := fun V b => by
      rcases unhide HRL V b with h9 | ⟨b9, o9, e9, _, h9⟩
      · rw [h9] at h0; exact absurd rfl h0
      · have x9 := range_r1 h9 (show 0 < L.length by omega)
        rw [Nat.zero_mul, Nat.add_zero] at x9
        injection e9 with e9
        injection e9 with e1 e2 _
        rw [e1, e2]
        exact x9
    generalize (gt rangeK L 0).f1 = hi at *
    have a3 := (unhide A3).cv
    have a3l := (unhide A3).lt
    clear hel eG eR
    go_upto_region 3 with fail
    go_quiet (fail)
    obtain ⟨w4, hw4⟩ : ∃ w4, w4 = w3.drewN nq := ⟨_, rfl⟩
    have A4 := hide (show Bx w4 W.heap.size (spaceC D a c) by rw [hw4]; exact (unhide A3).below (below_drewN (Below.refl _ _) _))
    have R4 := hide (show Bx w4 (W.heap.size + 1) spaceZ by rw [hw4]; exact (unhide R3).below (below_drewN (Below.refl _ _) _))
    have B4 := hide (show Below W.heap.size W w4 by rw [hw4]; exact below_drewN (unhide B3) _)
    rw [← hw4]
    clear hw4 A3 R3 B3 a3 a3l x1 hLt
    have x4 := unhide HX w4 (unhide B4)
    have a4 := (unhide A4).cv
    have a4f := (unhide A4).fz
    have a4l := (unhide A4).lt
    have HN60 := hide h60
    go_upto_if 58 with fail
    go_cut [] (fun wx => Hid (Bx wx W.heap.size (spaceC ⟨taG D L, D.S, D.r⟩ a c)) ∧ Hid (Bx wx (W.heap.size + 1) spaceZ) ∧ Hid (Below W.heap.size W wx))
    case first =>
      by_cases hlt : D.lg < hi
      · have e9 : taG D L = hi := by rw [unhide HEG]; unfold mxI; rw [if_pos hlt]
        have A5 : Hid (Bx (w4.setCell ⟨W.heap.size, 0, none⟩ (.int .i64 hi)) W.heap.size (spaceC ⟨taG D L, D.S, D.r⟩ a c)) := by show Bx _ _ _; rw [e9]; exact (unhide A4).set (i := 0) (by simp)
        have R5 : Hid (Bx (w4.setCell ⟨W.heap.size, 0, none⟩ (.int .i64 hi)) (W.heap.size + 1) spaceZ) := (unhide R4).other (by omega)
        have B5 : Hid (Below W.heap.size W (w4.setCell ⟨W.heap.size, 0, none⟩ (.int .i64 hi))) := (unhide B4).setCell (p := ⟨W.heap.size, 0, none⟩) (Nat.le_refl _) _
        clear A4 R4 B4 e9 HX HRL HR HH HTK HTI HDE HRT HER HEG HE
        go_wp2
        go_meet
        exact ⟨A5, R5, B5⟩
      · have e9 : taG D L = D.lg := by rw [unhide HEG]; unfold mxI; rw [if_neg hlt]
        have A5 : Hid (Bx w4 W.heap.size (spaceC ⟨taG D L, D.S, D.r⟩ a c)) := by show Bx _ _ _; rw [e9]; exact unhide A4
        clear A4 e9 HX HRL HR HH HTK HTI HDE HRT HER HEG HE
        go_wp2
        go_meet
        exact ⟨A5, R4, B4⟩
    case rest =>
    obtain ⟨A5, R5, B5⟩ := hcut
    clear A4 R4 B4 a4 a4f a4l x4
    have hlg2 : -1 ≤ taG D L ∧ taG D L ≤ 9223372036854775807 := by rw [unhide HEG]; unfold mxI; split <;> omega
    obtain ⟨lg0, lg1⟩ := hlg2
    generalize taG D L = lg at *
    clear HEG hlg0 hlg1
    obtain ⟨wx, hwx⟩ : ∃ V, V = wc := ⟨_, rfl⟩
    rw [← hwx] at A5 R5 B5 ⊢
    clear hwx
    have a5 := (unhide A5).cv
    have a5l := (unhide A5).lt
    have O12 := hide (Ro.nil intK 3 (W.heap.size + 1 + 1) wx)
    have O14 := hide (Ro.nil sentK 37 (W.heap.size + 1 + 1) wx)
    go_wp2_with fail
    go_loopw [12, 14, 67] (fun v12 v14 iv wr => ∃ k : Nat, k ≤ D.S.length ∧ iv = .int .i64 k ∧ Hid (Ro intK 3 (W.heap.size + 1 + 1) wr v12 ((akS L (D.S.take k)).map fun x => x.f0)) ∧ Hid (Ro sentK 37 (W.heap.size + 1 + 1) wr v14 (lfS L (D.S.take k))) ∧ Hid (Dj v12 v14) ∧ Hid (Bx wr W.heap.size (spaceC ⟨lg, D.S, (akS L (D.S.take k)).foldl (rtF hi now de) D.r⟩ a c)) ∧ Hid (Bx wr (W.heap.size + 1) spaceZ) ∧ Hid (Below W.heap.size W wr)) (fun _ _ iv _ => D.S.length - (intOf iv).toNat)
    case atStart => exact ⟨0, Nat.zero_le _, rfl, O12, O14, Dj.nil _, A5, R5, B5⟩
    case round =>
      obtain ⟨k, hk, rfl, h12, h14, hdj, hX, hZ, hB⟩ := hrel
      clear O12 O14 A5 R5 B5 a5 a5l
      have hp0 := (unhide hX).lt
      have hp1 := (unhide hZ).lt
      by_cases hlt : k < D.S.length
      · rcases unhide HR wr (unhide hB) with h9 | ⟨b, o, rfl, _, hel⟩
        · rw [h9] at hlt; exact absurd hlt (Nat.not_lt_zero _)
        have c0 := sent_r0 hel hlt
        have c1 := sent_r1 hel hlt
        have c2 := sent_r2 hel hlt
        have hmem := gt_mem sentK D.S k hlt
        obtain ⟨xt0, xn0, xn1, xt1⟩ := unhide HTI _ hmem
        have xtk := unhide HTK _ hmem
        have PA1 : hasB L (gt sentK D.S k).f0 = true → akS L (D.S.take (k + 1)) = akS L (D.S.take k) ++ [gt sentK D.S k] := fun h => fil_yes hlt h
        have PA0 : hasB L (gt sentK D.S k).f0 = false → akS L (D.S.take (k + 1)) = akS L (D.S.take k) := fun h => fil_no hlt h
        have PL1 : hasB L (gt sentK D.S k).f0 = false → lfS L (D.S.take (k + 1)) = lfS L (D.S.take k) ++ [gt sentK D.S k] := fun h => fil_yes (p := fun x => !hasB L x.f0) hlt (by show (!hasB L (gt sentK D.S k).f0) = true; rw [h]; rfl)
        have PL0 : hasB L (gt sentK D.S k).f0 = true → lfS L (D.S.take (k + 1)) = lfS L (D.S.take k) := fun h => fil_no (p := fun x => !hasB L x.f0) hlt (by show (!hasB L (gt sentK D.S k).f0) = false; rw [h]; rfl)
        have hrg : rtB ((akS L (D.S.take k)).foldl (rtF hi now de) D.r) = true := rt_fold (unhide HDE) _ _ (fun y hy => unhide HTK y (List.mem_of_mem_take (ak_mem hy))) (unhide HRT)
        have nA : (akS L (D.S.take k)).length ≤ 60 := by
          have h1 := List.length_filter_le (fun x : SentD => hasB L x.f0) (D.S.take k)
          have h2 := List.length_take_le k D.S
          have h3 := unhide HN60
          show ((D.S.take k).filter _).length ≤ 60
          omega
        have nL : (lfS L (D.S.take k)).length ≤ 60 := by
          have h1 := List.length_filter_le (fun x : SentD => !hasB L x.f0) (D.S.take k)
          have h2 := List.length_take_le k D.S
          have h3 := unhide HN60
          show ((D.S.take k).filter _).length ≤ 60
          omega
        have PR : ∀ x, (akS L (D.S.take k) ++ [x]).foldl (rtF hi now de) D.r = rtF hi now de ((akS L (D.S.take k)).foldl (rtF hi now de) D.r) x := fun x => by rw [List.foldl_append]; rfl
        have nS : D.S.length ≤ 60 := unhide HN60
        generalize akS L (D.S.take k) = Ak at *
        generalize lfS L (D.S.take k) = Lk at *
        generalize hr9 : Ak.foldl (rtF hi now de) D.r = r at *
        have HR9 := hide hr9
        clear hr9
        generalize gt sentK D.S k = x at *
        obtain ⟨x0, x1, x2⟩ := x
        dsimp only at PA1 PA0 PL1 PL0 xt0 xn0 xn1 xt1 xtk
        obtain ⟨W1, hW1⟩ : ∃ V, V = wr.alloc (.cells #[.int .i64 x0, .int .i64 x1, .int .i64 x2] 37) := ⟨_, rfl⟩
        have hAl : Below wr.heap.size wr W1 := by rw [hW1]; exact (Below.refl _ _).alloc (Nat.le_refl _) _
        have Y1 := hide (show Bx W1 wr.heap.size (sentC ⟨x0, x1, x2⟩) by rw [hW1]; exact Bx.new wr _ _)
        have B1 := hide ((unhide hB).trans (hAl.mono (unhide hB).size))
        have HHx := hide (unhide HH W1 (unhide B1) x0)
        have o1 := (unhide h12).below hAl
        have o2 := (unhide h14).below hAl
        have q1 := fun q hq => (unhide h12).ob q hq
        have q2 := fun q hq => (unhide h14).ob q hq
        have X1 := hide ((unhide hX).below hAl)
        have Z1 := hide ((unhide hZ).below hAl)
        have s1 := hAl.size
        have y1 := (unhide Y1).cv
        have y1l := (unhide Y1).lt
        have HW1 := hide hW1
        have hDj := unhide hdj
        clear hAl hW1 h12 h14 hdj hX hZ hB hel hmem
        have hnk : (k : Int) < (D.S.length : Int) := by omega
        have hk0 : (0 : Int) ≤ (k : Int) := by omega
        go_upto_region 10 with fail
        rw [← unhide HW1]
        clear HW1
        go_wp2_with fail
        refine (unhide HHx).mono ?_
        rintro e w2 ⟨rfl, b2⟩
        have s2 := b2.size
        have o1 := o1.below b2
        have o2 := o2.below b2
        have X2 := (unhide X1).below b2
        have Z2 := (unhide Z1).below b2
        have Y2 := (unhide Y1).below b2
        have B2 := (unhide B1).trans (b2.mono (unhide B1).size)
        clear b2 HHx X1 Z1 Y1 B1 y1 y1l c0 c1 c2
        cases hb : hasB L x0 with
        | false =>
          obtain ⟨v3, w3, run, o3, hob, kq⟩ := pushTo w2 (W.heap.size + 1 + 1) _ Lk ⟨x0, x1, x2⟩ o2 (by omega) (by omega)
          have RUN := hide run
          have G12 : Hid (Ro intK 3 (W.heap.size + 1 + 1) w3 u12 ((akS L (D.S.take (k + 1))).map fun x => x.f0)) := by
            show Ro _ _ _ _ _ _
            rw [PA0 hb]
            exact o1.ko kq (fun q hq e => hDj q hq e)
          have G14 : Hid (Ro sentK 37 (W.heap.size + 1 + 1) w3 v3 (lfS L (D.S.take (k + 1)))) := by
            show Ro _ _ _ _ _ _
            rw [PL1 hb]
            exact o3
          have GD : Hid (Dj u12 v3) := (hDj.symm.grow hob (fun q hq => (o1.ob q hq).2)).symm
          have GX : Hid (Bx w3 W.heap.size (spaceC ⟨lg, D.S, (akS L (D.S.take (k + 1))).foldl (rtF hi now de) D.r⟩ (some ⟨b, o, none⟩) c)) := by
            show Bx _ _ _
            rw [PA0 hb, unhide HR9]
            exact X2.kept kq.size (kq.block _ (by omega) (fun e => by have := (q2 _ e).1; omega))
          have GZ : Hid (Bx w3 (W.heap.size + 1) spaceZ) := Z2.kept kq.size (kq.block _ (by omega) (fun e => by have := (q2 _ e).1; omega))
          have GB : Hid (Below W.heap.size W w3) := B2.trans ((kq.below (base := W.heap.size + 1 + 1) (by omega) (fun q hq => (q2 q hq).1)).mono (by omega))
          have y2 := Y2.cv
          have y2l := Y2.lt
          obtain ⟨a14, c14, rfl⟩ := o2.opens
          clear run o1 o2 o3 hob kq X2 Z2 Y2 B2 PA0 PA1 PL0 PL1 PR hDj q1 q2 HR HH HRL HTK HTI HX HER HE HR9 YES
          go_wp2_with (at_builtin; refine wpl_app rfl _ _ 23 rfl _ _ _ _ rfl rfl (unhide RUN) ?_)
          exact ⟨⟨k + 1, by omega, by go_num, G12, G14, GD, GX, GZ, GB⟩, by simp [intOf]; omega⟩
        | true =>
          obtain ⟨a12, c12, hu9⟩ := o1.opens
          rw [List.length_map] at hu9
          subst hu9
          obtain ⟨v3, w3, run, o3, hob, kq⟩ := pushInt w2 (W.heap.size + 1 + 1) _ (Ak.map fun x => x.f0) x0 o1 (by rw [List.length_map]; omega) (by omega)
          have RUN := hide run
          have G12 : Hid (Ro intK 3 (W.heap.size + 1 + 1) w3 v3 ((akS L (D.S.take (k + 1))).map fun x => x.f0)) := by
            show Ro _ _ _ _ _ _
            rw [PA1 hb, List.map_append]
            exact o3
          have G14 : Hid (Ro sentK 37 (W.heap.size + 1 + 1) w3 u14 (lfS L (D.S.take (k + 1)))) := by
            show Ro _ _ _ _ _ _
            rw [PL0 hb]
            exact o2.ko kq (fun q hq e => hDj q e hq)
          have GD : Hid (Dj v3 u14) := hDj.grow hob (fun q hq => (o2.ob q hq).2)
          have X3 := X2.kept kq.size (kq.block _ (by omega) (fun e => by have := (q1 _ e).1; omega))
          have Z3 := Z2.kept kq.size (kq.block _ (by omega) (fun e => by have := (q1 _ e).1; omega))
          have Y3 := Y2.kept kq.size (kq.block _ Y2.lt (fun e => by have := (q1 _ e).2; omega))
          have B3 := B2.trans ((kq.below (base := W.heap.size + 1 + 1) (by omega) (fun q hq => (q1 q hq).1)).mono (by omega))
          have ER : Hid ((akS L (D.S.take (k + 1))).foldl (rtF hi now de) D.r = rtF hi now de r ⟨x0, x1, x2⟩) := by show _ = _; rw [PA1 hb]; exact PR _
          have y2 := Y2.cv
          have y2l := Y2.lt
          have y3 := Y3.cv
          have y3l := Y3.lt
          have x3 := unhide HX w3 B3
          have s3 := kq.size
          have HD3 := hide (And.intro X3 (And.intro Z3 (And.intro Y3 B3)))
          have HRG := hide hrg
          have HXT := hide xtk
          clear run o1 o2 o3 hob kq X2 Z2 Y2 B2 PA0 PA1 PL0 PL1 PR hDj q1 q2 HR HH HRL HTK HTI HX HER HE X3 Z3 Y3 B3 hrg xtk HR9 YES
          go_upto_region 13 with (at_builtin; refine wpl_app rfl _ _ 31 rfl _ _ _ _ rfl rfl (unhide RUN) ?_)
          have hLl2 : 0 < L.length := by omega
          go_quiet (fail)
          obtain ⟨w4, hw4⟩ : ∃ w4, w4 = w3.drewN nq := ⟨_, rfl⟩
          have bd : Below w3.heap.size w3 w4 := by rw [hw4]; exact below_drewN (Below.refl _ _) _
          obtain ⟨X3, Z3, Y3, B3⟩ := unhide HD3
          have X4 := X3.below bd
          have Z4 := hide (Z3.below bd)
          have Y4 := hide (Y3.below bd)
          have B4 := hide (B3.trans (bd.mono B3.size))
          replace G12 := hide ((unhide G12).below bd)
          replace G14 := hide ((unhide G14).below bd)
          rw [← hw4]
          have y4 := (unhide Y4).cv
          have y4l := (unhide Y4).lt
          have x4 := X4.cv
          have x4l := X4.lt
          have HX4 := hide X4
          clear hw4 bd X3 Z3 Y3 B3 HD3 y2 y2l y3 y3l x3 X4
          by_cases he : x0 = hi
          · subst he
            have er : rtF x0 now de r ⟨x0, x1, x2⟩ = smD r (now - x1) de := by unfold rtF; rw [if_pos rfl]
            rw [er] at ER
            have HS := hide (fun V => specSm r (now - x1) de V (unhide HRG) (unhide HXT) (unhide HDE))
            have ws : IntKind.i64.wrap (now - x1) = now - x1 := wraps_i64 _ (by omega) (by omega)
            clear er
            go_wp2_with fail
            refine (unhide HS _).mono ?_
            rintro e w5 ⟨rfl, b5⟩
            have X5 := (unhide HX4).below b5
            have x5 := X5.cv
            have x5f := X5.fz
            have x5l := X5.lt
            have Z5 := hide ((unhide Z4).below b5)
            have B5 := hide ((unhide B4).trans (b5.mono (unhide B4).size))
            replace G12 := hide ((unhide G12).below b5)
            replace G14 := hide ((unhide G14).below b5)
            generalize smD r (now - x1) de = r' at *
            obtain ⟨kn, la, mi, sm, va⟩ := r'
            obtain ⟨w6, hw6⟩ : ∃ V, V = ((((w5.setCell ⟨W.heap.size, 2, none⟩ (.bool kn)).setCell ⟨W.heap.size, 3, none⟩ (.int .i64 la)).setCell ⟨W.heap.size, 4, none⟩ (.int .i64 mi)).setCell ⟨W.heap.size, 5, none⟩ (.int .i64 sm)).setCell ⟨W.heap.size, 6, none⟩ (.int .i64 va) := ⟨_, rfl⟩
            have k6 : Kq (fun q => q = W.heap.size) w5 w6 := by rw [hw6]; exact (((((Kq.refl (fun q => q = W.heap.size) w5).set rfl).set rfl).set rfl).set rfl).set rfl
            have GX : Hid (Bx w6 W.heap.size (spaceC ⟨lg, D.S, (akS L (D.S.take (k + 1))).foldl (rtF x0 now de) D.r⟩ (some ⟨b, o, none⟩) c)) := by
              show Bx _ _ _
              rw [unhide ER, hw6]
              exact (((((X5.set (i := 2) (by simp)).set (i := 3) (by simp)).set (i := 4) (by simp)).set (i := 5) (by simp)).set (i := 6) (by simp))
            have GZ : Hid (Bx w6 (W.heap.size + 1) spaceZ) := (unhide Z5).kept k6.size (k6.block _ (unhide Z5).lt (by omega))
            have GB : Hid (Below W.heap.size W w6) := (unhide B5).trans ((k6.below (base := W.heap.size) (by omega) (fun q hq => by omega)))
            have F12 := hide ((unhide G12).kq k6 (fun q hq => by omega))
            have F14 := hide ((unhide G14).kq k6 (fun q hq => by omega))
            have HW6 := hide hw6
            clear hw6 k6 b5 X5 Z5 B5 G12 G14 Z4 Y4 B4 HX4 y4 y4l x4 x4l ws HS HRG HXT
            go_upto_region 15 with fail
            rw [← unhide HW6]
            clear HW6
            go_wp2
            exact ⟨⟨k + 1, by omega, by go_num, F12, F14, GD, GX, GZ, GB⟩, by simp [intOf]; omega⟩
          · have er : rtF hi now de r ⟨x0, x1, x2⟩ = r := by unfold rtF; rw [if_neg he]
            rw [er] at ER
            have GX : Hid (Bx w4 W.heap.size (spaceC ⟨lg, D.S, (akS L (D.S.take (k + 1))).foldl (rtF hi now de) D.r⟩ (some ⟨b, o, none⟩) c)) := by
              show Bx _ _ _
              rw [unhide ER]
              exact unhide HX4
            have t9 : (x0 == hi) = false := beq_eq_false_iff_ne.2 he
            clear er
            go_wp2
            exact ⟨⟨k + 1, by omega, by go_num, G12, G14, GD, GX, Z4, B4⟩, by simp [intOf]; omega⟩
      · obtain rfl : k = D.S.length := by omega
        rw [List.take_length] at h12 h14 hX
        have hM : (lfS L D.S).length ≤ 60 := by
          have h1 := List.length_filter_le (fun x : SentD => !hasB L x.f0) D.S
          have h3 := unhide HN60
          show (D.S.filter _).length ≤ 60
          omega
        have hrg : rtB ((akS L D.S).foldl (rtF hi now de) D.r) = true := rt_fold (unhide HDE) _ _ (fun y hy => unhide HTK y (ak_mem hy)) (unhide HRT)
        have Y2 := hide (unhide YES lg ((akS L D.S).foldl (rtF hi now de) D.r) rfl (unhide HER _ rfl).symm)
        generalize (akS L D.S).foldl (rtF hi now de) D.r = R at *
        generalize (akS L D.S).map (fun x => x.f0) = A at *
        generalize lfS L D.S = M at *
        have HW := hide (fun V => specWt R V hrg)
        have HLO := hide (lo_alt hrg lg now)
        obtain ⟨wv0, wv1⟩ := wu_in hrg
        generalize wuI R = wv at *
        have x5 := (unhide hX).cv
        have x5l := (unhide hX).lt
        have hdj' := hdj
        clear YES HR HH HRL HTK HTI HX HER HE HRT HDE hrg HN60 hlt hk hdj hdj' hp0 hp1
        go_wp2_with fail
        refine (unhide HW _).mono ?_
        rintro e w5 ⟨rfl, b5⟩
        have X5 := hide ((unhide hX).below b5)
        have Z5 := hide ((unhide hZ).below b5)
        have B5 := hide ((unhide hB).trans (b5.mono (unhide hB).size))
        have V12 := hide ((unhide h12).below b5)
        obtain ⟨a14, c14, rfl, _, ri14⟩ := ((unhide h14).below b5).form
        have RD14 := hide (Ri.rd ri14)
        have S5 : W.heap.size + 1 < w5.heap.size := (unhide Z5).lt
        have O13 := hide (Ro.nil intK 3 w5.heap.size w5)
        have O15 := hide (Ro.nil sentK 37 w5.heap.size w5)
        clear hX hZ hB h12 h14 ri14 b5 x5 x5l HW
        go_wp2_with fail
        go_loopw [13, 15, 107] (fun u13 u15 iv wr => ∃ k : Nat, k ≤ M.length ∧ iv = .int .i64 k ∧ Hid (Ro intK 3 w5.heap.size wr u13 (((M.take k).filter fun x => loB lg now R x).map fun x => x.f0)) ∧ Hid (Ro sentK 37 w5.heap.size wr u15 ((M.take k).filter fun x => !loB lg now R x)) ∧ Hid (Dj u13 u15) ∧ Hid (Below w5.heap.size w5 wr)) (fun _ _ iv _ => M.length - (intOf iv).toNat)
        case atStart => exact ⟨0, Nat.zero_le _, rfl, O13, O15, Dj.nil _, Below.refl _ _⟩
        case round =>
          obtain ⟨k, hk, rfl, h13, h15, hdj, hB⟩ := hrel
          clear O13 O15
          by_cases hlt : k < M.length
          · rcases (unhide RD14).below (unhide hB) with h9 | ⟨b, o, rfl, _, hel⟩
            · rw [h9] at hlt; exact absurd hlt (Nat.not_lt_zero _)
            have c0 := sent_r0 hel hlt
            have c1 := sent_r1 hel hlt
            have c2 := sent_r2 hel hlt
            have PA1 : loB lg now R (gt sentK M k) = true → (M.take (k + 1)).filter (fun x => loB lg now R x) = (M.take k).filter (fun x => loB lg now R x) ++ [gt sentK M k] := fun h => fil_yes hlt h
            have PA0 : loB lg now R (gt sentK M k) = false → (M.take (k + 1)).filter (fun x => loB lg now R x) = (M.take k).filter (fun x => loB lg now R x) := fun h => fil_no hlt h
            have PL1 : loB lg now R (gt sentK M k) = false → (M.take (k + 1)).filter (fun x => !loB lg now R x) = (M.take k).filter (fun x => !loB lg now R x) ++ [gt sentK M k] := fun h => fil_yes (p := fun x => !loB lg now R x) hlt (by show (!loB lg now R (gt sentK M k)) = true; rw [h]; rfl)
            have PL0 : loB lg now R (gt sentK M k) = true → (M.take (k + 1)).filter (fun x => !loB lg now R x) = (M.take k).filter (fun x => !loB lg now R x) := fun h => fil_no (p := fun x => !loB lg now R x) hlt (by show (!loB lg now R (gt sentK M k)) = false; rw [h]; rfl)
            have nA : ((M.take k).filter (fun x => loB lg now R x)).length ≤ 60 := by
              have h1 := List.length_filter_le (fun x : SentD => loB lg now R x) (M.take k)
              have h2 := List.length_take_le k M
              omega
            have nL : ((M.take k).filter (fun x => !loB lg now R x)).length ≤ 60 := by
              have h1 := List.length_filter_le (fun x : SentD => !loB lg now R x) (M.take k)
              have h2 := List.length_take_le k M
              omega
            have HLx := hide (unhide HLO (gt sentK M k))
            generalize (M.take k).filter (fun x => loB lg now R x) = Ak at *
            generalize (M.take k).filter (fun x => !loB lg now R x) = Lk at *
            generalize gt sentK M k = x at *
            obtain ⟨x0, x1, x2⟩ := x
            dsimp only at HLx
            obtain ⟨W1, hW1⟩ : ∃ V, V = wr.alloc (.cells #[.int .i64 x0, .int .i64 x1, .int .i64 x2] 37) := ⟨_, rfl⟩
            have hAl : Below wr.heap.size wr W1 := by rw [hW1]; exact (Below.refl _ _).alloc (Nat.le_refl _) _
            have Y1 := hide (show Bx W1 wr.heap.size (sentC ⟨x0, x1, x2⟩) by rw [hW1]; exact Bx.new wr _ _)
            have B1 := (unhide hB).trans (hAl.mono (unhide hB).size)
            have o1 := (unhide h13).below hAl
            have o2 := (unhide h15).below hAl
            have q1 := fun q hq => (unhide h13).ob q hq
            have q2 := fun q hq => (unhide h15).ob q hq
            have xs := ((unhide X5).below B1).cv
            have xsl := ((unhide X5).below B1).lt
            have s1 := hAl.size
            have sB := (unhide hB).size
            have y1 := (unhide Y1).cv
            have y1l := (unhide Y1).lt
            have HW1 := hide hW1
            have hDj := unhide hdj
            have hnk : (k : Int) < (M.length : Int) := by omega
            have hk0 : (0 : Int) ≤ (k : Int) := by omega
            clear hAl hW1 hdj hB hel HLO h13 h15
            cases t1 : decide (x0 < lg) with
            | false =>
              have hlo : loB lg now R ⟨x0, x1, x2⟩ = false := by rw [unhide HLx, t1]; rfl
              obtain ⟨v3, w3, run, o3, hob, kq⟩ := pushTo W1 w5.heap.size _ Lk ⟨x0, x1, x2⟩ o2 (by omega) (by omega)
              have RUN := hide run
              have G13 : Hid (Ro intK 3 w5.heap.size w3 u13 (((M.take (k + 1)).filter fun x => loB lg now R x).map fun x => x.f0)) := by
                show Ro _ _ _ _ _ _
                rw [PA0 hlo]
                exact o1.ko kq (fun q hq e => hDj q hq e)
              have G15 : Hid (Ro sentK 37 w5.heap.size w3 v3 ((M.take (k + 1)).filter fun x => !loB lg now R x)) := by
                show Ro _ _ _ _ _ _
                rw [PL1 hlo]
                exact o3
              have GD : Hid (Dj u13 v3) := (hDj.symm.grow hob (fun q hq => (o1.ob q hq).2)).symm
              have GB : Hid (Below w5.heap.size w5 w3) := B1.trans (kq.below (base := w5.heap.size) (by omega) (fun q hq => (q2 q hq).1))
              obtain ⟨a15, c15, rfl⟩ := o2.opens
              clear run o1 o2 o3 hob kq PA0 PA1 PL0 PL1 hDj q1 q2 B1 hlo Y2 HLx
              go_upto_region 20 with fail
              rw [← unhide HW1]
              clear HW1
              go_wp2_with (at_builtin; refine wpl_app rfl _ _ 23 rfl _ _ _ _ rfl rfl (unhide RUN) ?_)
              exact ⟨⟨k + 1, by omega, by go_num, G13, G15, GD, GB⟩, by simp [intOf]; omega⟩
            | true =>
            cases t2 : decide (x0 ≤ lg - 3) with
            | true =>
              have hlo : loB lg now R ⟨x0, x1, x2⟩ = true := by rw [unhide HLx, t1, t2]; rfl
              obtain ⟨v3, w3, run, o3, hob, kq⟩ := pushInt W1 w5.heap.size _ (Ak.map fun x => x.f0) x0 o1 (by rw [List.length_map]; omega) (by omega)
              have RUN := hide run
              have G13 : Hid (Ro intK 3 w5.heap.size w3 v3 (((M.take (k + 1)).filter fun x => loB lg now R x).map fun x => x.f0)) := by
                show Ro _ _ _ _ _ _
                rw [PA1 hlo, List.map_append]
                exact o3
              have G15 : Hid (Ro sentK 37 w5.heap.size w3 u15 ((M.take (k + 1)).filter fun x => !loB lg now R x)) := by
                show Ro _ _ _ _ _ _
                rw [PL0 hlo]
                exact o2.ko kq (fun q hq e => hDj q e hq)
              have GD : Hid (Dj v3 u15) := hDj.grow hob (fun q hq => (o2.ob q hq).2)
              have GB : Hid (Below w5.heap.size w5 w3) := B1.trans (kq.below (base := w5.heap.size) (by omega) (fun q hq => (q1 q hq).1))
              obtain ⟨a13, c13, rfl⟩ := o1.opens
              clear run o1 o2 o3 hob kq PA0 PA1 PL0 PL1 hDj q1 q2 B1 hlo Y2 HLx
              go_upto_region 20 with fail
              rw [← unhide HW1]
              clear HW1
              go_wp2_with (at_builtin; refine wpl_app rfl _ _ 31 rfl _ _ _ _ rfl rfl (unhide RUN) ?_)
              exact ⟨⟨k + 1, by omega, by go_num, G13, G15, GD, GB⟩, by simp [intOf]; omega⟩
            | false =>
            cases t3 : decide (0 ≤ wv) with
            | false =>
              have hlo : loB lg now R ⟨x0, x1, x2⟩ = false := by rw [unhide HLx, t1, t2, t3]; rfl
              obtain ⟨v3, w3, run, o3, hob, kq⟩ := pushTo W1 w5.heap.size _ Lk ⟨x0, x1, x2⟩ o2 (by omega) (by omega)
              have RUN := hide run
              have G13 : Hid (Ro intK 3 w5.heap.size w3 u13 (((M.take (k + 1)).filter fun x => loB lg now R x).map fun x => x.f0)) := by
                show Ro _ _ _ _ _ _
                rw [PA0 hlo]
                exact o1.ko kq (fun q hq e => hDj q hq e)
              have G15 : Hid (Ro sentK 37 w5.heap.size w3 v3 ((M.take (k + 1)).filter fun x => !loB lg now R x)) := by
                show Ro _ _ _ _ _ _
                rw [PL1 hlo]
                exact o3
              have GD : Hid (Dj u13 v3) := (hDj.symm.grow hob (fun q hq => (o1.ob q hq).2)).symm
              have GB : Hid (Below w5.heap.size w5 w3) := B1.trans (kq.below (base := w5.heap.size) (by omega) (fun q hq => (q2 q hq).1))
              obtain ⟨a15, c15, rfl⟩ := o2.opens
              clear run o1 o2 o3 hob kq PA0 PA1 PL0 PL1 hDj q1 q2 B1 hlo Y2 HLx
              go_upto_region 20 with fail
              rw [← unhide HW1]
              clear HW1
              go_wp2_with (at_builtin; refine wpl_app rfl _ _ 23 rfl _ _ _ _ rfl rfl (unhide RUN) ?_)
              exact ⟨⟨k + 1, by omega, by go_num, G13, G15, GD, GB⟩, by simp [intOf]; omega⟩
            | true =>
            cases t4 : decide (x1 ≤ now - wv) with
            | true =>
              have hlo : loB lg now R ⟨x0, x1, x2⟩ = true := by rw [unhide HLx, t1, t2, t3, t4]; rfl
              obtain ⟨v3, w3, run, o3, hob, kq⟩ := pushInt W1 w5.heap.size _ (Ak.map fun x => x.f0) x0 o1 (by rw [List.length_map]; omega) (by omega)
              have RUN := hide run
              have G13 : Hid (Ro intK 3 w5.heap.size w3 v3 (((M.take (k + 1)).filter fun x => loB lg now R x).map fun x => x.f0)) := by
                show Ro _ _ _ _ _ _
                rw [PA1 hlo, List.map_append]
                exact o3
              have G15 : Hid (Ro sentK 37 w5.heap.size w3 u15 ((M.take (k + 1)).filter fun x => !loB lg now R x)) := by
                show Ro _ _ _ _ _ _
                rw [PL0 hlo]
                exact o2.ko kq (fun q hq e => hDj q e hq)
              have GD : Hid (Dj v3 u15) := hDj.grow hob (fun q hq => (o2.ob q hq).2)
              have GB : Hid (Below w5.heap.size w5 w3) := B1.trans (kq.below (base := w5.heap.size) (by omega) (fun q hq => (q1 q hq).1))
              obtain ⟨a13, c13, rfl⟩ := o1.opens
              clear run o1 o2 o3 hob kq PA0 PA1 PL0 PL1 hDj q1 q2 B1 hlo Y2 HLx
              go_upto_region 20 with fail
              rw [← unhide HW1]
              clear HW1
              go_wp2_with (at_builtin; refine wpl_app rfl _ _ 31 rfl _ _ _ _ rfl rfl (unhide RUN) ?_)
              exact ⟨⟨k + 1, by omega, by go_num, G13, G15, GD, GB⟩, by simp [intOf]; omega⟩
            | false =>
              have hlo : loB lg now R ⟨x0, x1, x2⟩ = false := by rw [unhide HLx, t1, t2, t3, t4]; rfl
              obtain ⟨v3, w3, run, o3, hob, kq⟩ := pushTo W1 w5.heap.size _ Lk ⟨x0, x1, x2⟩ o2 (by omega) (by omega)
              have RUN := hide run
              have G13 : Hid (Ro intK 3 w5.heap.size w3 u13 (((M.take (k + 1)).filter fun x => loB lg now R x).map fun x => x.f0)) := by
                show Ro _ _ _ _ _ _
                rw [PA0 hlo]
                exact o1.ko kq (fun q hq e => hDj q hq e)
              have G15 : Hid (Ro sentK 37 w5.heap.size w3 v3 ((M.take (k + 1)).filter fun x => !loB lg now R x)) := by
                show Ro _ _ _ _ _ _
                rw [PL1 hlo]
                exact o3
              have GD : Hid (Dj u13 v3) := (hDj.symm.grow hob (fun q hq => (o1.ob q hq).2)).symm
              have GB : Hid (Below w5.heap.size w5 w3) := B1.trans (kq.below (base := w5.heap.size) (by omega) (fun q hq => (q2 q hq).1))
              obtain ⟨a15, c15, rfl⟩ := o2.opens
              clear run o1 o2 o3 hob kq PA0 PA1 PL0 PL1 hDj q1 q2 B1 hlo Y2 HLx
              go_upto_region 20 with fail
              rw [← unhide HW1]
              clear HW1
              go_wp2_with (at_builtin; refine wpl_app rfl _ _ 23 rfl _ _ _ _ rfl rfl (unhide RUN) ?_)
              exact ⟨⟨k + 1, by omega, by go_num, G13, G15, GD, GB⟩, by simp [intOf]; omega⟩
          · obtain rfl : k = M.length := by omega
            rw [List.take_length] at h13 h15
            have N12 := (unhide V12).below (unhide hB)
            have q12 := fun q hq => ((unhide V12).ob q hq).2
            have sB := (unhide hB).size
            have d1 : Dj u12 u13 := fun q hq e => by have := q12 q hq; have := ((unhide h13).ob q e).1; omega
            have d2 : Dj u12 u15 := fun q hq e => by have := q12 q hq; have := ((unhide h15).ob q e).1; omega
            have n1 := blk_ne N12 (unhide h13) d1 (n := wr.heap.size) (n' := wr.heap.size + 1) (Nat.le_refl _) (by omega) (by omega)
            have n2 := blk_ne N12 (unhide h15) d2 (n := wr.heap.size) (n' := wr.heap.size + 2) (Nat.le_refl _) (by omega) (by omega)
            have n3 := blk_ne (unhide h13) (unhide h15) (unhide hdj) (n := wr.heap.size + 1) (n' := wr.heap.size + 2) (by omega) (by omega) (by omega)
            have g1 := N12.blk_ge (n := wr.heap.size) (by omega)
            have g2 := (unhide h13).blk_ge (n := wr.heap.size + 1) (by omega)
            have g3 := (unhide h15).blk_ge (n := wr.heap.size + 2) (by omega)
            obtain ⟨a12, c12, e12, _, r12, _⟩ := N12.rb wr.heap.size
            obtain ⟨a13, c13, e13, _, r13, _⟩ := (unhide h13).rb (wr.heap.size + 1)
            obtain ⟨a15, c15, e15, _, r15, _⟩ := (unhide h15).rb (wr.heap.size + 2)
            have RO15 := unhide h15
            generalize blk A u12 wr.heap.size = b12 at *
            generalize blk ((M.filter fun x => loB lg now R x).map fun x => x.f0) u13 (wr.heap.size + 1) = b13 at *
            generalize blk (M.filter fun x => !loB lg now R x) u15 (wr.heap.size + 2) = b15 at *
            have Y3 := hide (unhide Y2)
            generalize ((M.filter fun x => loB lg now R x).map fun x => x.f0) = LA at *
            generalize (M.filter fun x => !loB lg now R x) = LK at *
            subst e12
            subst e13
            subst e15
            have A6 := (unhide X5).below (unhide hB)
            have R6 := (unhide Z5).below (unhide hB)
            have B6 := (unhide B5).trans ((unhide hB).mono (unhide B5).size)
            obtain ⟨V9, hV9⟩ : ∃ V, V = wr.setCell ⟨W.heap.size, 1, none⟩ (.slice a15 LK.length c15) := ⟨_, rfl⟩
            have A9 : Bx V9 W.heap.size [.int .i64 lg, .slice a15 LK.length c15, .bool R.kn, .int .i64 R.la, .int .i64 R.mi, .int .i64 R.sm, .int .i64 R.va] := by rw [hV9]; exact A6.set (i := 1) (by simp)
            have R9 : Bx V9 (W.heap.size + 1) spaceZ := by rw [hV9]; exact R6.other (by omega)
            have kq9 : Kq (fun q => q = W.heap.size ∨ q = W.heap.size + 1) wr V9 := by rw [hV9]; exact (Kq.refl _ _).set (Or.inl rfl)
            have B9 := hide (show Below W.heap.size W V9 by rw [hV9]; exact B6.setCell (p := ⟨W.heap.size, 1, none⟩) (Nat.le_refl _) _)
            have FIN : Hid (∀ U, Kq (fun q => q = W.heap.size ∨ q = W.heap.size + 1) V9 U → Rb sentK W.heap.size U a15 LK b15 ∧ Rb intK W.heap.size U a12 A b12 ∧ Rb intK W.heap.size U a13 LA b13 ∧ Ro sentK 37 W.heap.size U (.slice a15 LK.length c15) LK) := fun U k => by
              have kk := kq9.trans k
              exact ⟨(r15.kq kk (by omega)).mono (by omega), (r12.kq kk (by omega)).mono (by omega), (r13.kq kk (by omega)).mono (by omega), (RO15.kq kk (fun q hq => by omega)).mono (by omega)⟩
            have HV9 := hide hV9
            have a6c := A6.cv
            have a6f := A6.fz
            have a6l := A6.lt
            have a9c := A9.cv
            have r9 := R9.cv
            have r9f := R9.fz
            have r9l := R9.lt
            have HNN := hide (And.intro n1 (And.intro n2 n3))
            clear A6 R6 B6 hV9 kq9 A9 R9 r12 r13 r15 RO15 n1 n2 n3 N12 q12 d1 d2 h13 h15 hdj hB V12 X5 Z5 B5 RD14 Y2 HLO
            go_upto_region 25 with fail
            rw [← unhide HV9]
            clear HV9 a6c a6f
            go_wp2
            refine bodyPost_ret (v := .tuple #[.agg #[.int .i64 lg, .slice a15 LK.length c15, .bool R.kn, .int .i64 R.la, .int .i64 R.mi, .int .i64 R.sm, .int .i64 R.va], .slice a12 A.length c12, .slice a13 LA.length c13, .bool true]) (by simp [results, Try.results6, go_sem, r9]) rfl ?_
            obtain ⟨n1, n2, n3⟩ := unhide HNN
            refine (fun (h : _ ∧ _ ∧ _ ∧ _) hb => unhide Y3 _ a15 c15 a12 c12 a13 c13 b15 b12 b13 h.1 h.2.1 h.2.2.1 (Ne.symm n2) (Ne.symm n3) n1 hb h.2.2.2) (unhide FIN _ ?_) ?_
            · iterate 7 refine Kq.set ?_ (Or.inr rfl)
              exact Kq.refl _ _
            · iterate 7 refine Below.setCell ?_ (by simp <;> omega) _
              exact unhide B9
  · have t1 : decide (now < la1) = true := decide_eq_true (by omega)
    have HE : Hid (taB D L now de = false) := by show _ = _; rw [unhide hta, decide_eq_false (show ¬ (⟨la0, la1, la2⟩ : SentD).f1 ≤ now from hl)]; rfl
    clear HG HL HA HH HR HRL HT1 HT2 hta HO A3 hg hr hk h0 HLA hl
    have r2 := (unhide R3).cv
    have r2f := (unhide R3).fz
    have r2l := (unhide R3).lt
    go_wp2
    refine bodyPost_ret (v := .tuple #[.agg spaceZ.toArray, .slice none 0 0, .slice none 0 0, .bool false]) (by simp [results, Try.results6, go_sem, r2]) rfl (unhide NO _ (unhide HE) ?_)
    iterate 7 refine Below.setCell ?_ (by simp <;> omega) _
    exact unhide B3
theorem specTA (D : SpaceD) (L : List RangeD) (now de : Int) (hn : D.S.length ≤ 1048576) (hm : L.length ≤ 1048576) (ho : rgO L) (W : World) (a : Option Addr) (c : Nat) (aL : Option Addr) (cL : Nat) (h : RdSpace W a D) (hL : Rd rangeK W aL L) :
    Calls Try.prog 6 #[spaceV D a c, .slice aL L.length cL, .int .i64 now, .int .i64 de] W (TAP D L now de W) := (specTAo D L now de hn hm ho W a c aL cL h hL).mono fun _ _ h => h.p
end Go.Proofs.Ytccfbkpelehldaa.Rc
