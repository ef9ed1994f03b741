/-
  The law on live sets with one less and one more, walked.
-/
import Derived.Test.YtpjmnnaiegdjmaaDoorInsX
import Derived.Test.YtpjmnnaiegdjmaaDoorDrhX
import Derived.Test.YtpjmnnaiegdjmaaDoorPkoX
namespace Go.Proofs.YtpjmnnaiegdjmaaDoor.fnRendezvous
open Go.ChangeShapes Go.WideShapes Go.ChangeAt Go.RowKit Go.Deep
set_option linter.unusedVariables false
set_option maxRecDepth 100000

theorem Ost.form2 {base : Nat} {w : World} {v : Value} {L : List ByteArray} (h : Ost base w v L) : ∃ a cap, v = .slice a L.length cap ∧ L.length ≤ cap ∧ cap ≤ 9223372036854775807 ∧ (a = none ∧ cap = 0 ∨ ∃ b o, a = some ⟨b, o, none⟩) ∧ Ta w a L := by
  have hf := h.form
  rcases h.2 with ⟨rfl, e⟩ | ⟨g, cap, cur, rfl, hb, hg, hnc, hcm, _⟩
  · exact ⟨none, 0, by rw [e], by omega, by omega, Or.inl ⟨rfl, rfl⟩, Or.inl e⟩
  · obtain ⟨a', c', e', h1, h2, h3⟩ := hf
    injection e' with e1 e2 e3
    subst e1 e3
    unfold maxLen at hcm
    exact ⟨_, _, rfl, hnc, by omega, Or.inr ⟨g, 0, rfl⟩, h3.sa⟩
set_option maxHeartbeats 1000000 in
theorem same9 (a a' : Option Addr) (n cap cap' : Nat) (F : Nat → ByteArray) (w : World) (hn : n ≤ 1048576) (h : Sa w a n F) (h' : Sa w a' n F) :
    Calls Tryd.prog 26 #[.slice a n cap, .slice a' n cap'] w fun e w' => e = .returned (.bool true) ∧ Below w.heap.size w w' := by
  have HR := hide h
  have HR' := hide h'
  clear h h'
  go_enter Tryd.func26, Tryd.ntmps26
  go_wp2
  go_loopw [13] (fun i wr => ∃ k : Nat, k ≤ n ∧ i = .int .i64 k ∧ Below w.heap.size w wr) (fun i _ => n - (intOf i).toNat)
  case atStart => exact ⟨0, Nat.zero_le _, rfl, Below.refl _ _⟩
  case round =>
    obtain ⟨k, hk, rfl, hbel⟩ := hrel
    by_cases hlt : k < n
    · rcases (unhide HR).kept hbel with h0 | ⟨b, o, rfl, h1⟩
      · omega
      rcases (unhide HR').kept hbel with h0 | ⟨b', o', rfl, h2⟩
      · omega
      have hcf := h1.c k hlt
      have hcf' := h2.c k hlt
      have hnk : (k : Int) < (n : Int) := by omega
      have hk0 : (0 : Int) ≤ (k : Int) := by omega
      clear h1 h2
      generalize F k = t at *
      go_wp2_with fail
      go_quiet (fail)
      all_goals
        go_wp2
        exact ⟨⟨k + 1, by omega, by go_num, below_drewN hbel _⟩, by simp [intOf]; omega⟩
    · go_wp2
      go_ret
      exact ⟨rfl, hbel⟩
theorem pb_yes {F : Nat → ByteArray} {n : Nat} {key : ByteArray} (h0 : 0 < n) (h1 : glB F n = true) (h2 : key.size ≤ 100) : pbR F n key = .tuple #[.string (pkT F key n), .bool true] := by
  unfold pbR
  rw [if_pos ⟨h0, h1, h2⟩]
theorem pb_is (F : Nat → ByteArray) (n : Nat) (key : ByteArray) : ∃ (t : ByteArray) (r : Bool), pbR F n key = .tuple #[.string t, .bool r] := by
  unfold pbR
  by_cases h : 0 < n ∧ glB F n = true ∧ key.size ≤ 100
  · rw [if_pos h]; exact ⟨_, _, rfl⟩
  · rw [if_neg h]; exact ⟨_, _, rfl⟩
theorem sz_of {L : List ByteArray} (h : sm13 L) : ∀ i, i < L.length → (tA L i).size ≤ 1048576 := fun i hi => by have := h i hi; omega
theorem gl_sz {L : List ByteArray} (h : glB (tA L) L.length = true) : ∀ i, i < L.length → (tA L i).size ≤ 1048576 := fun i hi => by have := bk_size (gl_bk h hi); omega
theorem db_facts {L : List ByteArray} {x : ByteArray} (h : dbB L x = true) : glB (tA L) L.length = true ∧ lnP (tA L) x L.length < L.length ∧ tA L (lnP (tA L) x L.length) = x ∧ dbM L x = drL L (lnP (tA L) x L.length) ∧ abB L x = false := by
  have hM : dbM L x = drL L (lnP (tA L) x L.length) := by unfold dbM; rw [if_pos h]
  unfold dbB at h
  rw [Bool.and_eq_true] at h
  exact ⟨h.1, (hs_lt h.2).1, (hs_lt h.2).2, hM, ab_3 h.2⟩
theorem ab_facts {L : List ByteArray} {x : ByteArray} (h : abB L x = true) : glB (tA L) L.length = true := by
  unfold abB at h
  rw [Bool.and_eq_true, Bool.and_eq_true, Bool.and_eq_true] at h
  exact h.1.1.1
theorem sz1 {key : ByteArray} (h : key.size ≤ 100) : szA (tA [key]) 100 [key].length = true := by
  show (true && decide ((tA [key] 0).size ≤ 100)) = true
  rw [decide_eq_true (show (tA [key] 0).size ≤ 100 from h)]
  rfl
theorem one_sz {key : ByteArray} (h : key.size ≤ 1048576) : ∀ i, i < [key].length → (tA [key] i).size ≤ 1048576 := fun i hi => by
  obtain rfl : i = 0 := by simpa using hi
  exact h
theorem one_ta (w : World) (key : ByteArray) (T : TypeId) : Ta (w.alloc (.cells #[.string key] T)) (some ⟨w.heap.size, 0, none⟩) [key] :=
  Or.inr ⟨_, _, rfl, by simp, fun i hi => by
    obtain rfl : i = 0 := by simpa using hi
    simp [tA]⟩
/-- what is asked when one goes -/
theorem gone {L : List ByteArray} {x key : ByteArray} (h : dbB L x = true) (hk : key.size ≤ 100) (hM : 0 < (dbM L x).length) :
    pbR (tA L) L.length key = .tuple #[.string (pkT (tA L) key L.length), .bool true] ∧ pbR (tA (dbM L x)) (dbM L x).length key = .tuple #[.string (pkT (tA (dbM L x)) key (dbM L x).length), .bool true] ∧ mvB L (dbM L x) [key] = true ∧
    (pkT (tA L) key L.length = x ∧ [key].filter (mvP L (dbM L x)) = [key] ∨ pkT (tA L) key L.length ≠ x ∧ pkT (tA (dbM L x)) key (dbM L x).length = pkT (tA L) key L.length ∧ [key].filter (mvP L (dbM L x)) = []) := by
  obtain ⟨hg, h1, h2, h3, _⟩ := db_facts h
  rw [h3] at hM ⊢
  generalize lnP (tA L) x L.length = k at *
  have hl := drL_len L k h1
  have hg2 := gl_dr hg h1
  refine ⟨pb_yes (by omega) hg hk, pb_yes hM hg2 hk, ?_, ?_⟩
  · unfold mvB
    rw [hg, hg2, decide_eq_true hM, decide_eq_true (show 0 < L.length by omega)]
    rw [show szA (tA [key]) 100 [key].length = true from sz1 hk]
    rfl
  · by_cases e : pkI (tA L) key (L.length - 1) = k
    · left
      have ea : pkT (tA L) key L.length = x := by unfold pkT; rw [e, h2]
      refine ⟨ea, ?_⟩
      have hne := pk_dr_ne hg key h1 (by omega)
      rw [h2, ← ea] at hne
      rw [List.filter_cons_of_pos (by unfold mvP; rw [decide_eq_false (fun q => hne q.symm)]; rfl)]
      rfl
    · right
      have hc := pk_dr key h1 (by omega) e
      refine ⟨fun q => e ?_, hc, ?_⟩
      · unfold pkT at q
        rw [← h2] at q
        have hp := pkI_le (tA L) key (L.length - 1)
        exact gl_inj hg (by omega) h1 q
      · rw [List.filter_cons_of_neg (by unfold mvP; rw [decide_eq_true hc.symm]; simp)]
        rfl
/-- what is asked when one comes -/
theorem come {L : List ByteArray} {x key : ByteArray} (h : abB L x = true) (hk : key.size ≤ 100) :
    pbR (tA (abM L x)) (abM L x).length key = .tuple #[.string (pkT (tA (abM L x)) key (abM L x).length), .bool true] ∧
    (pkT (tA (abM L x)) key (abM L x).length = x ∨ pbR (tA L) L.length key = .tuple #[.string (pkT (tA (abM L x)) key (abM L x).length), .bool true]) := by
  have hg := gl_ins h
  rw [ab_yes h]
  have hl := insL_len L _ x (lnP_is (tA L) x L.length).1
  refine ⟨pb_yes (by omega) hg hk, ?_⟩
  rcases pk_ins key x (lnP_is (tA L) x L.length).1 with e | ⟨h0, e⟩
  · exact Or.inl e
  · exact Or.inr (by rw [e]; exact pb_yes h0 (ab_facts h) hk)
set_option maxHeartbeats 8000000 in
theorem walk_in (a0 : Option Addr) (n0 c0 : Nat) (a1 : Option Addr) (n1 c1 : Nat) (w : World) (hN : n0 + n1 ≤ 1048576) (hC0 : Cd w a0 n0) (hC1 : Cd w a1 n1) (hT : Rt w) :
    Calls Tryd.prog 7 #[.slice a0 n0 c0, .slice a1 n1 c1] w fun e w' => e = .returned (.bool true) ∧ Below w.heap.size w w' := by
  have T0 := hide hT
  have C0 := hide hC0
  have C1 := hide hC1
  clear hT hC0 hC1
  have hI : ¬ (1048576 : Int) < (n0 : Int) + (n1 : Int) := by omega
  go_enter Tryd.func7, Tryd.ntmps7
  go_wp2_with fail
  refine (drawDrop9 a0 n0 c0 _ (by omega) (unhide C0)).mono ?_
  rintro e w1 ⟨v, L, x, rfl, hO, hL, hs, hx, b1⟩
  obtain ⟨la, lc, rfl, hlc, hl63, hla, hTa⟩ := Ost.form2 hO
  have HL_1 := hide hTa
  have S1 := hide hs
  have B1 := hide b1
  have T1 := hide ((unhide T0).kept b1)
  have C2 := hide ((unhide C1).below b1)
  clear hO hTa hs b1 C0 C1 T0
  go_wp2_with fail
  refine (drawPick9 a1 n1 c1 _ (by omega) (unhide C2)).mono ?_
  rintro e w2 ⟨v1, L1, key, rfl, _, _, _, hkey, b2⟩
  have B2 := hide ((unhide B1).trans (b2.mono (unhide B1).size))
  have T2 := hide ((unhide T1).kept b2)
  have HL_2 := hide ((unhide HL_1).kept b2)
  clear b2 C2 HL_1 T1
  have zs := hide (sz_of (unhide S1))
  have HD1 := hide (fun W (q : Ta W la L) => implDb la lc L x W (by omega) (unhide zs) q)
  have HD2 := hide (fun W (q : Ta W la L) => specDb la lc L x W (by omega) hlc hl63 (unhide zs) q)
  have HP1 := hide (fun W (q : Ta W la L) (t : Rt W) => implPk la lc L key W (by omega) (unhide zs) (by omega) q t)
  have HP2 := hide (fun W (q : Ta W la L) => specPk la L.length lc (tA L) key W (by omega) (unhide zs) (by omega) q)
  have HA1 := hide (fun W (q : Ta W la L) => implAb la lc L x W (by omega) (unhide zs) (by omega) q)
  have HA2 := hide (fun W (q : Ta W la L) => specAb la lc L x W (by omega) hlc hl63 hla (unhide zs) (by omega) q)
  have hML := dbM_len L x
  have hYL := abM_len L x
  have HGO := hide (fun (h : dbB L x = true) (hk : key.size ≤ 100) (hM : 0 < (dbM L x).length) => gone h hk hM)
  have HGZ : Hid (dbB L x = true → ∀ i, i < (dbM L x).length → (tA (dbM L x) i).size ≤ 1048576) := fun h => by
    obtain ⟨hg, h1, h2, h3, _⟩ := db_facts h
    rw [h3]
    exact gl_sz (gl_dr hg h1)
  have HGA : Hid (dbB L x = true → abB L x = false) := fun h => (db_facts h).2.2.2.2
  have HY0 : Hid (abB L x = false → (abM L x).length = 0) := fun h => by rw [ab_no h]; rfl
  have HCO := hide (fun (h : abB L x = true) (hk : key.size ≤ 100) => come h hk)
  have HCZ : Hid (abB L x = true → ∀ i, i < (abM L x).length → (tA (abM L x) i).size ≤ 1048576) := fun h => by
    rw [ab_yes h]
    exact gl_sz (gl_ins h)
  have HMV := hide (fun (hy : mvB L (dbM L x) [key] = true) (hz : ∀ i, i < (dbM L x).length → (tA (dbM L x) i).size ≤ 1048576) (hk : key.size ≤ 100) am cm ak W (q1 : Ta W la L) (q2 : Sa W am (dbM L x).length (tA (dbM L x))) (q3 : Ta W ak [key]) (t : Rt W) => implMv la am ak lc cm 1 L (dbM L x) [key] W (by omega) (unhide zs) (by omega) hz (by show 1 ≤ _; omega) (one_sz (by omega)) q1 q2 q3 t hy)
  have HPM := hide (fun (hz : ∀ i, i < (dbM L x).length → (tA (dbM L x) i).size ≤ 1048576) am cm W (q : Sa W am (dbM L x).length (tA (dbM L x))) (t : Rt W) => implPk am cm (dbM L x) key W (by omega) hz (by omega) q t)
  have HPY := hide (fun (hz : ∀ i, i < (abM L x).length → (tA (abM L x) i).size ≤ 1048576) am cm W (q : Sa W am (abM L x).length (tA (abM L x))) (t : Rt W) => implPk am cm (abM L x) key W (by omega) hz (by omega) q t)
  obtain ⟨ta, ra, hpb⟩ := pb_is (tA L) L.length key
  have HPB := hide hpb
  rw [hpb] at HP1 HP2
  clear hpb
  generalize hd : dbM L x = M at *
  generalize hb : dbB L x = b at *
  generalize hy : abM L x = Y at *
  generalize hc : abB L x = c at *
  generalize hMF : tA M = F at *
  generalize hYF : tA Y = G at *
  clear hd hb hy hc
  go_wp2_with fail
  refine (unhide HD1 _ (unhide HL_2)).mono ?_
  rintro e w3 ⟨am, cm, rfl, sm, b3⟩
  rw [hMF] at sm
  have B3 := hide ((unhide B2).trans (b3.mono (unhide B2).size))
  have T3 := hide ((unhide T2).kept b3)
  have HL_3 := hide ((unhide HL_2).kept b3)
  have HM_3 := hide sm.sa
  clear sm b3 HL_2 T2
  go_wp2_with fail
  refine (unhide HD2 _ (unhide HL_3)).mono ?_
  rintro e w4 ⟨aw, cw, rfl, sw, b4⟩
  rw [hMF] at sw
  have B4 := hide ((unhide B3).trans (b4.mono (unhide B3).size))
  have T4 := hide ((unhide T3).kept b4)
  have HL_4 := hide ((unhide HL_3).kept b4)
  have HM_4 := hide ((unhide HM_3).kept b4)
  have HW_4 := hide sw.sa
  clear sw b4 HL_3 HM_3 T3
  go_wp2_with fail
  refine (same9 am aw M.length cm cw F _ (by omega) (unhide HM_4) (unhide HW_4)).mono ?_
  rintro e w5 ⟨rfl, b5⟩
  have B5 := hide ((unhide B4).trans (b5.mono (unhide B4).size))
  have T5 := hide ((unhide T4).kept b5)
  have HL_5 := hide ((unhide HL_4).kept b5)
  have HM_5 := hide ((unhide HM_4).kept b5)
  clear b5 HL_4 HM_4 HW_4 T4
  by_cases hk : key.size ≤ 100
  case neg =>
    have h1 : (100 : Int) < (key.size : Int) := by omega
    go_wp2
    go_ret
    exact ⟨rfl, (unhide B5)⟩
  have h1 : ¬ (100 : Int) < (key.size : Int) := by omega
  go_wp2_with fail
  refine (unhide HP1 _ (unhide HL_5) (unhide T5)).mono ?_
  rintro e w6 ⟨rfl, b6⟩
  have B6 := hide ((unhide B5).trans (b6.mono (unhide B5).size))
  have T6 := hide ((unhide T5).kept b6)
  have HL_6 := hide ((unhide HL_5).kept b6)
  have HM_6 := hide ((unhide HM_5).kept b6)
  clear b6 HL_5 HM_5 T5
  go_wp2_with fail
  refine (unhide HP2 _ (unhide HL_6)).mono ?_
  rintro e w7 ⟨rfl, b7⟩
  have B7 := hide ((unhide B6).trans (b7.mono (unhide B6).size))
  have T7 := hide ((unhide T6).kept b7)
  have HL_7 := hide ((unhide HL_6).kept b7)
  have HM_7 := hide ((unhide HM_6).kept b7)
  clear b7 HL_6 HM_6 T6
  cases b with
  | true =>
    have hc9 := unhide HGA rfl
    subst hc9
    have hY0 : Y.length = 0 := unhide HY0 rfl
    by_cases hM : 0 < M.length
    · have hMI : (0 : Int) < (M.length : Int) := by omega
      obtain ⟨g1, g2, g3, g4⟩ := unhide HGO rfl hk hM
      have e9 := (unhide HPB).symm.trans g1
      injection e9 with e9
      have e8 := congrArg (fun z => z[0]?) e9
      have e7 := congrArg (fun z => z[1]?) e9
      simp at e8 e7
      subst e8 e7
      have HPM' := hide (unhide HPM (unhide HGZ rfl))
      rw [g2] at HPM'
      have HMV' := hide (unhide HMV g3 (unhide HGZ rfl) hk)
      generalize pkT (tA L) key L.length = ta at *
      generalize pkT F key M.length = tm at *
      generalize [key].filter (mvP L M) = K2 at *
      have G4 := hide g4
      clear g1 g2 g3 g4 e9 HGO HPM HMV
      go_wp2_with fail
      refine (unhide HPM' _ _ _ (unhide HM_7) (unhide T7)).mono ?_
      rintro e w8 ⟨rfl, b8⟩
      have B8 := hide ((unhide B7).trans (b8.mono (unhide B7).size))
      have T8 := hide ((unhide T7).kept b8)
      have HL_8 := hide ((unhide HL_7).kept b8)
      have HM_8 := hide ((unhide HM_7).kept b8)
      clear b8
      have A8 : Below w8.heap.size w8 (w8.alloc (.cells #[.string key] 9)) := (Below.refl _ _).alloc (Nat.le_refl _) _
      have HL9 := hide ((unhide HL_8).kept A8)
      have HM9 := hide ((unhide HM_8).kept A8)
      have T9 := hide ((unhide T8).kept A8)
      have B9 := hide ((unhide B8).trans (A8.mono (unhide B8).size))
      have HK9 : Hid (Ta (w8.alloc (.cells #[.string key] 9)) (some ⟨w8.heap.size, 0, none⟩) [key]) := one_ta _ _ _
      clear A8
      go_wp2_with fail
      refine (unhide HMV' _ _ _ _ (unhide HL9) (unhide HM9) (unhide HK9) (unhide T9)).mono ?_
      rintro e w10 ⟨vm, rfl, hOm, b10⟩
      obtain ⟨ak, ck, rfl, _, _, _⟩ := hOm.form
      clear hOm
      have B10 := hide ((unhide B9).trans (b10.mono (unhide B9).size))
      have T10 := hide ((unhide T9).kept b10)
      have HL_10 := hide ((unhide HL9).kept b10)
      have HM_10 := hide ((unhide HM9).kept b10)
      clear b10 HK9
      rcases unhide G4 with ⟨q1, q2⟩ | ⟨q1, q2, q3⟩
      · subst q1 q2
        go_wp2_with fail
        refine (unhide HA1 _ (unhide HL_10)).mono ?_
        rintro e w11 ⟨ay, cy, rfl, sy, b11⟩
        rw [hYF] at sy
        have B11 := hide ((unhide B10).trans (b11.mono (unhide B10).size))
        have T11 := hide ((unhide T10).kept b11)
        have HL_11 := hide ((unhide HL_10).kept b11)
        have HY_11 := hide sy.sa
        clear sy b11
        go_wp2_with fail
        refine (unhide HA2 _ (unhide HL_11)).mono ?_
        rintro e w12 ⟨az, cz, rfl, sz, b12⟩
        rw [hYF] at sz
        have B12 := hide ((unhide B11).trans (b12.mono (unhide B11).size))
        have T12 := hide ((unhide T11).kept b12)
        have HL_12 := hide ((unhide HL_11).kept b12)
        have HY_12 := hide ((unhide HY_11).kept b12)
        clear sz b12
        go_wp2
        go_ret
        exact ⟨rfl, (unhide B12)⟩
      · subst q2 q3
        have q4 : (tm.toList == x.toList) = false := by rw [beq_txt]; exact decide_eq_false q1
        go_wp2_with fail
        refine (unhide HA1 _ (unhide HL_10)).mono ?_
        rintro e w11 ⟨ay, cy, rfl, sy, b11⟩
        rw [hYF] at sy
        have B11 := hide ((unhide B10).trans (b11.mono (unhide B10).size))
        have T11 := hide ((unhide T10).kept b11)
        have HL_11 := hide ((unhide HL_10).kept b11)
        have HY_11 := hide sy.sa
        clear sy b11
        go_wp2_with fail
        refine (unhide HA2 _ (unhide HL_11)).mono ?_
        rintro e w12 ⟨az, cz, rfl, sz, b12⟩
        rw [hYF] at sz
        have B12 := hide ((unhide B11).trans (b12.mono (unhide B11).size))
        have T12 := hide ((unhide T11).kept b12)
        have HL_12 := hide ((unhide HL_11).kept b12)
        have HY_12 := hide ((unhide HY_11).kept b12)
        clear sz b12
        go_wp2
        go_ret
        exact ⟨rfl, (unhide B12)⟩
    · have hMI : ¬ (0 : Int) < (M.length : Int) := by omega
      go_wp2_with fail
      refine (unhide HA1 _ (unhide HL_7)).mono ?_
      rintro e w8 ⟨ay, cy, rfl, sy, b8⟩
      rw [hYF] at sy
      have B8 := hide ((unhide B7).trans (b8.mono (unhide B7).size))
      have T8 := hide ((unhide T7).kept b8)
      have HL_8 := hide ((unhide HL_7).kept b8)
      have HY_8 := hide sy.sa
      clear sy b8
      go_wp2_with fail
      refine (unhide HA2 _ (unhide HL_8)).mono ?_
      rintro e w9 ⟨az, cz, rfl, sz, b9⟩
      rw [hYF] at sz
      have B9 := hide ((unhide B8).trans (b9.mono (unhide B8).size))
      have T9 := hide ((unhide T8).kept b9)
      have HL_9 := hide ((unhide HL_8).kept b9)
      have HY_9 := hide ((unhide HY_8).kept b9)
      clear sz b9
      go_wp2
      go_ret
      exact ⟨rfl, (unhide B9)⟩
  | false =>
    cases c with
    | false =>
      have hY0 : Y.length = 0 := unhide HY0 rfl
      go_wp2_with fail
      refine (unhide HA1 _ (unhide HL_7)).mono ?_
      rintro e w8 ⟨ay, cy, rfl, sy, b8⟩
      rw [hYF] at sy
      have B8 := hide ((unhide B7).trans (b8.mono (unhide B7).size))
      have T8 := hide ((unhide T7).kept b8)
      have HL_8 := hide ((unhide HL_7).kept b8)
      have HY_8 := hide sy.sa
      clear sy b8
      go_wp2_with fail
      refine (unhide HA2 _ (unhide HL_8)).mono ?_
      rintro e w9 ⟨az, cz, rfl, sz, b9⟩
      rw [hYF] at sz
      have B9 := hide ((unhide B8).trans (b9.mono (unhide B8).size))
      have T9 := hide ((unhide T8).kept b9)
      have HL_9 := hide ((unhide HL_8).kept b9)
      have HY_9 := hide ((unhide HY_8).kept b9)
      clear sz b9
      go_wp2
      go_ret
      exact ⟨rfl, (unhide B9)⟩
    | true =>
      obtain ⟨g1, g2⟩ := unhide HCO rfl hk
      have HPY' := hide (unhide HPY (unhide HCZ rfl))
      rw [g1] at HPY'
      generalize pkT G key Y.length = ty at *
      have G2 : Hid (ty = x ∨ ta = ty) := by
        rcases g2 with q | q
        · exact Or.inl q
        · have e9 := (unhide HPB).symm.trans q
          injection e9 with e9
          have e8 := congrArg (fun z => z[0]?) e9
          simp at e8
          exact Or.inr e8
      clear g1 g2
      go_wp2_with fail
      refine (unhide HA1 _ (unhide HL_7)).mono ?_
      rintro e w8 ⟨ay, cy, rfl, sy, b8⟩
      rw [hYF] at sy
      have B8 := hide ((unhide B7).trans (b8.mono (unhide B7).size))
      have T8 := hide ((unhide T7).kept b8)
      have HL_8 := hide ((unhide HL_7).kept b8)
      have HY_8 := hide sy.sa
      clear sy b8
      go_wp2_with fail
      refine (unhide HA2 _ (unhide HL_8)).mono ?_
      rintro e w9 ⟨az, cz, rfl, sz, b9⟩
      rw [hYF] at sz
      have B9 := hide ((unhide B8).trans (b9.mono (unhide B8).size))
      have T9 := hide ((unhide T8).kept b9)
      have HL_9 := hide ((unhide HL_8).kept b9)
      have HY_9 := hide ((unhide HY_8).kept b9)
      clear sz b9
      go_wp2_with fail
      refine (unhide HPY' _ _ _ (unhide HY_9) (unhide T9)).mono ?_
      rintro e w10 ⟨rfl, b10⟩
      have B10 := hide ((unhide B9).trans (b10.mono (unhide B9).size))
      have T10 := hide ((unhide T9).kept b10)
      have HL_10 := hide ((unhide HL_9).kept b10)
      have HY_10 := hide ((unhide HY_9).kept b10)
      clear b10
      rcases unhide G2 with rfl | rfl
      · go_wp2
        go_ret
        exact ⟨by simp, (unhide B10)⟩
      · go_wp2
        all_goals
          go_ret
          exact ⟨by simp, (unhide B10)⟩
theorem walk (a0 : Option Addr) (n0 c0 : Nat) (a1 : Option Addr) (n1 c1 : Nat) (w : World) (hN0 : n0 ≤ 140737488355328) (hN1 : n1 ≤ 140737488355328) (hC0 : Cd w a0 n0) (hC1 : Cd w a1 n1) (hT : Rt w) :
    Calls Tryd.prog 7 #[.slice a0 n0 c0, .slice a1 n1 c1] w fun e w' => e = .returned (.bool true) ∧ Below w.heap.size w w' := by
  by_cases h : (1048576 : Int) < (n0 : Int) + (n1 : Int)
  · clear hC0 hC1 hT
    go_enter Tryd.func7, Tryd.ntmps7
    go_wp2
    go_ret
    exact ⟨rfl, Below.refl _ _⟩
  · exact walk_in a0 n0 c0 a1 n1 c1 w (by omega) hC0 hC1 hT
end Go.Proofs.YtpjmnnaiegdjmaaDoor.fnRendezvous
