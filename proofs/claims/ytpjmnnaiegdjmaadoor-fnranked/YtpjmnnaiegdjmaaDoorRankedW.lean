/-
  The law on ranks of drawn live sets, walked.
-/
import Derived.Test.YtpjmnnaiegdjmaaDoorRkiX
import Derived.Test.YtpjmnnaiegdjmaaDoorDrhX
import Derived.Test.YtpjmnnaiegdjmaaDoorPko
namespace Go.Proofs.YtpjmnnaiegdjmaaDoor.fnRanked
open Go.ChangeShapes Go.WideShapes Go.ChangeAt Go.RowKit Go.Deep
set_option linter.unusedVariables false
set_option maxRecDepth 100000

set_option maxHeartbeats 1000000 in
theorem same9 (a a' : Option Addr) (n cap cap' : Nat) (F : Nat → ByteArray) (w : World) (hn : n ≤ 1048576) (h : Sa w a n F) (h' : Sa w a' n F) :
    Calls Tryd.prog 26 #[.slice a n cap, .slice a' n cap'] w fun e w' => e = .returned (.bool true) ∧ Below w.heap.size w w' := by
  have HR := hide h
  have HR' := hide h'
  clear h h'
  go_enter Tryd.func26, Tryd.ntmps26
  go_wp2
  go_loopw [13] (fun i wr => ∃ k : Nat, k ≤ n ∧ i = .int .i64 k ∧ Below w.heap.size w wr) (fun i _ => n - (intOf i).toNat)
  case atStart => exact ⟨0, Nat.zero_le _, rfl, Below.refl _ _⟩
  case round =>
    obtain ⟨k, hk, rfl, hbel⟩ := hrel
    by_cases hlt : k < n
    · rcases (unhide HR).kept hbel with h0 | ⟨b, o, rfl, h1⟩
      · omega
      rcases (unhide HR').kept hbel with h0 | ⟨b', o', rfl, h2⟩
      · omega
      have hcf := h1.c k hlt
      have hcf' := h2.c k hlt
      have hnk : (k : Int) < (n : Int) := by omega
      have hk0 : (0 : Int) ≤ (k : Int) := by omega
      clear h1 h2
      generalize F k = t at *
      go_wp2_with fail
      go_quiet (fail)
      all_goals
        go_wp2
        exact ⟨⟨k + 1, by omega, by go_num, below_drewN hbel _⟩, by simp [intOf]; omega⟩
    · go_wp2
      go_ret
      exact ⟨rfl, hbel⟩
theorem drawRank9 (a : Option Addr) (N cap : Nat) (w : World) (hN : N ≤ 1048576) (h : Cd w a N) :
    Calls Tryd.prog 29 #[.slice a N cap] w (Dl w) := by
  have H := hide (drawPick9 a N cap w hN h)
  clear h
  go_enter Tryd.func29, Tryd.ntmps29
  go_wp2_with fail
  refine (unhide H).mono ?_
  rintro e w1 ⟨v, L, t, rfl, hO, hL, hs, ht, b1⟩
  have O1 := hide hO
  have S1 := hide hs
  have B1 := hide b1
  clear hO hs b1
  go_wp2
  go_ret2
  exact ⟨v, L, t, rfl, unhide O1, hL, unhide S1, ht, unhide B1⟩
theorem rb_facts {L : List ByteArray} {key : ByteArray} (h : rbB L key = true) : glB (tA L) L.length = true ∧ key.size ≤ 100 ∧ rbM L key = rkL key L L.length := by
  have e := rb_yes h
  unfold rbB at h
  rw [Bool.and_eq_true] at h
  exact ⟨h.1, of_decide_eq_true h.2, e⟩
theorem so_yes {b k : ByteArray} (h1 : bkB b = true) (h2 : k.size ≤ 100) : soR b k = .tuple #[.int .i64 (scN b k : Nat), .bool true] := by
  unfold soR
  rw [if_pos ⟨h1, h2⟩]
set_option maxHeartbeats 8000000 in
theorem walk_in (a0 : Option Addr) (n0 c0 : Nat) (w : World) (hN : n0 ≤ 1048576) (hC0 : Cd w a0 n0) (hT : Rt w) :
    Calls Tryd.prog 8 #[.slice a0 n0 c0] w fun e w' => e = .returned (.bool true) ∧ Below w.heap.size w w' := by
  have HD := hide (drawRank9 a0 n0 c0 w hN hC0)
  have HT := hide (fun W (q : Below w.heap.size w W) => hT.kept q)
  have hI : ¬ (1048576 : Int) < (n0 : Int) := by omega
  clear hC0 hT
  go_enter Tryd.func8, Tryd.ntmps8
  go_wp2_with fail
  refine (unhide HD).mono ?_
  rintro e w1 ⟨v, L, key, rfl, hO, hL, hs, hkey, b1⟩
  obtain ⟨la, lc, rfl, _, _, hSn⟩ := hO.form
  have H1 : Hid (Ta w1 la L) := hSn.sa
  have B1 := hide b1
  have zs : Hid (∀ i, i < L.length → (tA L i).size ≤ 1048576) := fun i hi => by have := hs i hi; omega
  clear hO hSn b1 hs HD
  have HR1 := hide (fun W (q : Ta W la L) (t : Rt W) => implRk la lc L key W (by omega) (unhide zs) (by omega) q t)
  have HR2 := hide (fun W (q : Ta W la L) => specRk la lc L key W (by omega) (unhide zs) (by omega) q)
  have HP1 := hide (fun W (q : Ta W la L) (t : Rt W) => implPk la lc L key W (by omega) (unhide zs) (by omega) q t)
  have hML := rbM_len L key
  have HF := hide (fun (h : rbB L key = true) => rb_facts h)
  have HNO : Hid (rbB L key = false → (rbM L key).length = 0) := fun h => by rw [rb_no h]; rfl
  generalize hM : rbM L key = M at *
  generalize hb : rbB L key = b at *
  generalize hMF : tA M = F at *
  clear hM hb
  go_wp2_with fail
  refine (unhide HR1 _ (unhide H1) (unhide HT _ (unhide B1))).mono ?_
  rintro e w2 ⟨am, cm, rfl, sm, b2⟩
  rw [hMF] at sm
  have B2 := hide ((unhide B1).trans (b2.mono (unhide B1).size))
  have H2 := hide ((unhide H1).kept b2)
  have M2 := hide sm.sa
  clear sm b2 H1
  go_wp2_with fail
  refine (unhide HR2 _ (unhide H2)).mono ?_
  rintro e w3 ⟨aw, cw, rfl, sw, b3⟩
  rw [hMF] at sw
  have B3 := hide ((unhide B2).trans (b3.mono (unhide B2).size))
  have H3 := hide ((unhide H2).kept b3)
  have M3 := hide ((unhide M2).kept b3)
  have W3 := hide sw.sa
  clear sw b3 H2 M2
  go_wp2_with fail
  refine (same9 am aw M.length cm cw F _ (by omega) (unhide M3) (unhide W3)).mono ?_
  rintro e w4 ⟨rfl, b4⟩
  have B4 := hide ((unhide B3).trans (b4.mono (unhide B3).size))
  have H4 := hide ((unhide H3).kept b4)
  have M4 := hide ((unhide M3).kept b4)
  clear b4 H3 M3 W3 HR1 HR2
  cases b with
  | false =>
    have hz := unhide HNO rfl
    have hzI : ((M.length : Int) == 0) = true := beq_iff_eq.2 (by omega)
    clear hz
    go_wp2
    go_ret
    exact ⟨rfl, unhide B4⟩
  | true =>
  obtain ⟨hg, hk, hMe⟩ := unhide HF rfl
  have HLEN : Hid (M.length = L.length) := by show _ = _; rw [hMe, rkL_len]
  have HME := hide hMe
  clear hMe
  by_cases h0 : L.length = 0
  · have hLI : ((L.length : Int) == 0) = true := beq_iff_eq.2 (by omega)
    have hzI : ((M.length : Int) == 0) = true := beq_iff_eq.2 (by have := unhide HLEN; omega)
    clear h0
    go_wp2
    go_ret
    exact ⟨rfl, unhide B4⟩
  have hLI : ((L.length : Int) == 0) = false := beq_eq_false_iff_ne.2 (by omega)
  have hn0 : 0 < L.length := by omega
  obtain ⟨p1, p2, p3⟩ := ranked hg hk hn0
  have hfal : Hid (∀ i j, i ≤ j → j < M.length → scN (F j) key ≤ scN (F i) key) := by rw [← hMF, unhide HME]; exact fal_rk key L L.length
  have hRF : tA (rkL key L L.length) = F := by rw [← unhide HME, hMF]
  rw [hRF] at p1 p2 p3
  have HSC := hide (fun q (hq : q < L.length) W (t : Rt W) => implSc (F q) key (by have := bk_size (p2 q hq); omega) (by omega) W t)
  have HSY := hide (fun q (hq : q < L.length) => so_yes (p2 q hq) hk)
  have hF0 : (F 0).size ≤ 1048576 := by have := bk_size (p2 0 hn0); omega
  have HDB := hide (fun W (q : Ta W la L) => implDb la lc L (F 0) W (by omega) (unhide zs) q)
  have HP2 := hide (fun (h1 : 1 < L.length) am cm W (q : Ta W am (dbM L (F 0))) (t : Rt W) => implPk am cm (dbM L (F 0)) key W (by have := (p3 h1).2.1; omega) (p3 h1).2.2.1 (by omega) q t)
  have HP3 := hide p3
  rw [p1] at HP1
  clear p1 p2 p3 HME hRF hg HF HNO zs
  rcases unhide M4 with hq | ⟨g, o, rfl, hr⟩
  · have := unhide HLEN; omega
  clear hr
  go_wp2_with fail
  refine (unhide HP1 _ (unhide H4) (unhide HT _ (unhide B4))).mono ?_
  rintro e w5 ⟨rfl, b5⟩
  have B5 := hide ((unhide B4).trans (b5.mono (unhide B4).size))
  have H5 := hide ((unhide H4).kept b5)
  have M5 := hide ((unhide M4).kept b5)
  clear b5 H4 M4 HP1
  have hc0 : w5.cell? ⟨g, o, none⟩ = some (.string (F 0)) := by
    have hl9 := unhide HLEN
    rcases unhide M5 with hq | ⟨g', o', e, hr⟩
    · omega
    · injection e with e
      injection e with e1 e2 _
      subst e1 e2
      have := hr.c 0 (by omega)
      rwa [Nat.add_zero] at this
  have hMI : (0 : Int) < (M.length : Int) := by have := unhide HLEN; omega
  have hlN : ((M.length : Int) == (L.length : Int)) = true := beq_iff_eq.2 (by have := unhide HLEN; omega)
  have HF0 : Hid (∃ t, t = F 0) := ⟨_, rfl⟩
  obtain ⟨t0, ht0⟩ := unhide HF0
  rw [← ht0] at hc0 HDB HP2 HP3 hF0 ⊢
  have HT0 := hide ht0
  clear ht0 HF0
  go_wp2_with fail
  rotate_left
  · have hx : (M.length : Int) = (L.length : Int) := by have := unhide HLEN; omega
    exact absurd hx (by assumption)
  go_loopw [11] (fun iv wr => ∃ k : Nat, 1 ≤ k ∧ k ≤ M.length ∧ iv = .int .i64 k ∧ Below w5.heap.size w5 wr) (fun iv _ => M.length - (intOf iv).toNat)
  case atStart => exact ⟨1, Nat.le_refl _, by omega, rfl, Below.refl _ _⟩
  case round =>
    obtain ⟨k, hk1, hkM, rfl, hbel⟩ := hrel
    clear hc0
    have hcell : Hid (∀ W, Below w5.heap.size w5 W → ∀ i, i < M.length → W.cell? ⟨g, o + i, none⟩ = some (.string (F i))) := fun W hb i hi => by
      rcases (unhide M5).kept hb with hq | ⟨g', o', e, hr⟩
      · omega
      · injection e with e
        injection e with e1 e2 _
        subst e1 e2
        exact hr.c i hi
    by_cases hlt : k < M.length
    · obtain ⟨m, rfl⟩ : ∃ m, k = m + 1 := ⟨k - 1, by omega⟩
      have hl9 := unhide HLEN
      have ca := unhide hcell wr hbel m (by omega)
      have hkI : ((m + 1 : Nat) : Int) < (M.length : Int) := by omega
      have HA := hide (unhide HSC m (by omega))
      have HB := hide (unhide HSC (m + 1) (by omega))
      rw [unhide HSY m (by omega)] at HA
      rw [unhide HSY (m + 1) (by omega)] at HB
      have hle := unhide hfal m (m + 1) (by omega) hlt
      have hleI : ¬ ((scN (F m) key : Nat) : Int) < (scN (F (m + 1)) key : Nat) := by omega
      have HBL := hide hbel
      clear hbel hle hl9
      generalize scN (F m) key = xa at *
      generalize scN (F (m + 1)) key = xb at *
      have HC := hide (fun W hb => unhide hcell W hb (m + 1) hlt)
      clear hcell
      generalize F m = ta at *
      generalize F (m + 1) = tb at *
      have hB5 := hide ((unhide B5).trans ((unhide HBL).mono (unhide B5).size))
      go_wp2_with fail
      refine (unhide HA _ (unhide HT _ (unhide hB5))).mono ?_
      rintro e w6 ⟨rfl, b6⟩
      have B6 := hide ((unhide HBL).trans (b6.mono (unhide HBL).size))
      have cb := unhide HC w6 (unhide B6)
      have hB6 := hide ((unhide hB5).trans (b6.mono (unhide hB5).size))
      clear b6
      go_wp2_with fail
      refine (unhide HB _ (unhide HT _ (unhide hB6))).mono ?_
      rintro e w7 ⟨rfl, b7⟩
      have B7 := hide ((unhide B6).trans (b7.mono (unhide B6).size))
      clear b7 cb
      go_wp2
      exact ⟨⟨m + 1 + 1, by omega, by omega, by go_num, unhide B7⟩, by simp [intOf]; omega⟩
    · obtain rfl : k = M.length := by omega
      have H6 := hide ((unhide H5).kept hbel)
      have B6 := hide ((unhide B5).trans (hbel.mono (unhide B5).size))
      have HBL := hide hbel
      clear hbel
      have hkI : ¬ (M.length : Int) < (M.length : Int) := by omega
      by_cases h2 : M.length < 2
      · have h2I : (M.length : Int) < 2 := by omega
        go_wp2
        go_ret
        exact ⟨rfl, unhide B6⟩
      have h2I : ¬ (M.length : Int) < 2 := by omega
      have h1L : 1 < L.length := by have := unhide HLEN; omega
      obtain ⟨q1, q2, q3, q4⟩ := unhide HP3 h1L
      have HP2' := hide (unhide HP2 h1L)
      rw [q4] at HP2'
      rw [q1] at HDB
      have HC := hide (fun W hb => unhide hcell W hb 1 (by omega))
      clear hcell q1 q2 q3 q4 HP2 HP3 HSC HSY hfal
      generalize hD : dbM L t0 = D at *
      clear hD
      generalize F 1 = t1 at *
      go_wp2_with fail
      refine (unhide HDB _ (unhide H6)).mono ?_
      rintro e w7 ⟨ad, cd, rfl, sd, b7⟩
      have B7 := hide ((unhide B6).trans (b7.mono (unhide B6).size))
      have HBL7 := hide ((unhide HBL).trans (b7.mono (unhide HBL).size))
      have D7 := hide sd.sa
      clear sd b7
      go_wp2_with fail
      refine (unhide HP2' _ _ _ (unhide D7) (unhide HT _ (unhide B7))).mono ?_
      rintro e w8 ⟨rfl, b8⟩
      have B8 := hide ((unhide B7).trans (b8.mono (unhide B7).size))
      have cc := unhide HC w8 ((unhide HBL7).trans (b8.mono (unhide HBL7).size))
      have h1M : (1 : Int) < (M.length : Int) := by omega
      clear b8
      go_wp2
      go_ret
      exact ⟨rfl, unhide B8⟩
theorem walk (a0 : Option Addr) (n0 c0 : Nat) (w : World) (hN0 : n0 ≤ 140737488355328) (hC0 : Cd w a0 n0) (hT : Rt w) :
    Calls Tryd.prog 8 #[.slice a0 n0 c0] w fun e w' => e = .returned (.bool true) ∧ Below w.heap.size w w' := by
  by_cases h : (1048576 : Int) < (n0 : Int)
  · clear hC0 hT
    go_enter Tryd.func8, Tryd.ntmps8
    go_wp2
    go_ret
    exact ⟨rfl, Below.refl _ _⟩
  · exact walk_in a0 n0 c0 w (by omega) hC0 hT
end Go.Proofs.YtpjmnnaiegdjmaaDoor.fnRanked
