/-
  Contracts: round trips that the model draws.
-/
import Derived.Test.YtdnolfabdfdmpaaRts
import Derived.Test.YtdnolfabdfdmpaaCur
import Derived.Test.YtdnolfabdfdmpaaOpRtt
import Derived.Deep.DeepCutAuto
import Derived.Deep.RegionLaw
namespace Go.Proofs.Ytdnolfabdfdmpaa.Rc
open Go.ChangeShapes Go.WideShapes Go.ChangeAt Go.RowKit Go.Deep
set_option linter.unusedVariables false
set_option maxRecDepth 100000

theorem bx_kx {cb g : Nat} {w w' : World} {xs : List Value} (h : Bx w g xs) (k : Kx cb w w') (hne : g ≠ cb) : Bx w' g xs := h.kept k.size (k.block g h.lt hne)
theorem cu_bel {w0 W W' : World} {cb B : Nat} {a : Option Addr} {N cap P P0 : Nat} (h0 : Cu w0 cb a N cap P0) (h : Cu W cb a N cap P) (hb : Below B W W') (hB : w0.heap.size ≤ B) : Cu W' cb a N cap P := by
  have hl := h0.lt
  have hc : ∀ q : Nat, W'.cell? ⟨cb, q, none⟩ = W.cell? ⟨cb, q, none⟩ := fun q => World.cell?_of_block (a := ⟨cb, q, none⟩) (hb.block cb (by omega))
  refine ⟨Nat.lt_of_lt_of_le h.lt hb.size, (hc 0).trans h.c0, ?_, ?_, fun q => ?_, ?_⟩
  · obtain ⟨p, h1, h2⟩ := h.c1
    exact ⟨p, h1, (hc 1).trans h2⟩
  · obtain ⟨s, h1, h2, h3⟩ := h.c2
    exact ⟨s, h1, h2, (hc 2).trans h3⟩
  · exact (World.frozen?_of_block (w := W) (a := ⟨cb, q, none⟩) (hb.block cb (by omega))).trans (h.fz q)
  · rcases h.cd with e | ⟨b, off, e, hl1, hn1, hx⟩
    · exact Or.inl e
    · rcases h0.cd with e0 | ⟨b0, off0, e0, hl0, _, _⟩
      · exact Or.inl e0
      · have hbb : b = b0 := by
          rw [e] at e0
          simp at e0
          exact e0.1
        refine Or.inr ⟨b, off, e, Nat.lt_of_lt_of_le hl1 hb.size, hn1, fun i hi => ?_⟩
        obtain ⟨x, h1, h2⟩ := hx i hi
        exact ⟨x, h1, (World.cell?_of_block (a := ⟨b, off + i, none⟩) (hb.block b (by omega))).trans h2⟩
theorem kx_bel {cb B : Nat} {w W W' : World} (h : Kx cb w W) (hb : Below B W W') (hB : w.heap.size ≤ B) : Kx cb w W' :=
  ⟨hb.os.trans h.os, hb.tape.trans h.tape, hb.output.trans h.output, Nat.le_trans h.size hb.size, fun k hk hne => (hb.block k (by omega)).trans (h.block k hk hne)⟩
theorem mul_div8 (a b : Int) (h0 : 0 ≤ a) (h1 : a ≤ 1000000000) (h2 : 0 ≤ b) (h3 : b ≤ 1000000000) : 0 ≤ (7 * a + b) / 8 ∧ (7 * a + b) / 8 ≤ 1000000000 := by omega
theorem tkB_of {n : Int} (h0 : 0 ≤ n) (h1 : n ≤ 1000000000) : tkB n = true := by unfold tkB; simp [h0, h1]
/-- a sample leaves a good round trip -/
theorem sm_good (D : RttD) (la de : Int) (hD : rtB D = true) (hl : tkB la = true) (hd : tkB de = true) : rtB (smD D la de) = true := by
  obtain ⟨l0, l1⟩ := tkB_yes hl
  obtain ⟨d0, d1⟩ := tkB_yes hd
  obtain ⟨kn, pl, mi, sm, va⟩ := D
  cases kn with
  | false =>
    show rtB ⟨true, la, la, la, la / 2⟩ = true
    unfold rtB
    simp only [if_true]
    rw [tkB_of l0 l1, tkB_of (show 0 ≤ la / 2 by omega) (by omega)]
    simp [l1]
  | true =>
    unfold rtB at hD
    simp only [if_true, Bool.and_eq_true, decide_eq_true_eq] at hD
    obtain ⟨g1, ⟨g2, g3⟩, g4, g5⟩ := hD
    obtain ⟨m0, m1⟩ := tkB_yes g1
    obtain ⟨s0, s1⟩ := tkB_yes g4
    obtain ⟨v0, v1⟩ := tkB_yes g5
    have em : 0 ≤ smMi ⟨true, pl, mi, sm, va⟩ la ∧ smMi ⟨true, pl, mi, sm, va⟩ la ≤ la := by unfold smMi; simp only; split <;> omega
    have ea : 0 ≤ smAd ⟨true, pl, mi, sm, va⟩ la de ∧ smAd ⟨true, pl, mi, sm, va⟩ la de ≤ 1000000000 := by unfold smAd; split <;> omega
    have ep : 0 ≤ smAp ⟨true, pl, mi, sm, va⟩ la de ∧ smAp ⟨true, pl, mi, sm, va⟩ la de ≤ 1000000000 := by unfold smAp; simp only; split <;> omega
    show rtB (smD ⟨true, pl, mi, sm, va⟩ la de) = true
    unfold smD
    rw [if_pos rfl]
    unfold rtB
    simp only [if_true]
    rw [tkB_of em.1 (by omega), tkB_of (show 0 ≤ (7 * sm + smAd ⟨true, pl, mi, sm, va⟩ la de) / 8 by omega) (by omega), tkB_of (show 0 ≤ (3 * va + smAp ⟨true, pl, mi, sm, va⟩ la de) / 4 by omega) (by omega)]
    simp [l1, em.2]
theorem sr_good (D : RttD) (la de : Int) (hD : rtB D = true) : rtB (srD D la de (srB D la de)) = true := by
  cases e : srB D la de with
  | false => rfl
  | true =>
    unfold srB at e
    simp only [Bool.and_eq_true] at e
    exact sm_good D la de hD e.2.1 e.2.2
/-- its numbers are small -/
def smlRtt (D : RttD) : Prop := (-1 ≤ D.la ∧ D.la ≤ 1000000001) ∧ (-1 ≤ D.mi ∧ D.mi ≤ 1000000001) ∧ (-1 ≤ D.sm ∧ D.sm ≤ 1000000001) ∧ (-1 ≤ D.va ∧ D.va ≤ 1000000001)
theorem good_sml {D : RttD} (h : rtB D = true) : smlRtt D := by
  obtain ⟨kn, la, mi, sm, va⟩ := D
  cases kn with
  | false =>
    unfold rtB at h
    simp at h
    obtain ⟨rfl, rfl, rfl, rfl⟩ := h
    unfold smlRtt
    simp only
    omega
  | true =>
    unfold rtB at h
    simp only [if_true, Bool.and_eq_true, decide_eq_true_eq] at h
    obtain ⟨g1, ⟨g2, g3⟩, g4, g5⟩ := h
    have := tkB_yes g1
    have := tkB_yes g4
    have := tkB_yes g5
    unfold smlRtt
    simp only
    omega
theorem sml_ok {D : RttD} (h : smlRtt D) : okRtt D := by
  unfold smlRtt at h
  unfold okRtt okI
  omega
set_option maxHeartbeats 4000000 in
theorem rtt_any (cb : Nat) (a : Option Addr) (N cap P : Nat) (w : World) (hN : N ≤ 1048576) (hP : P ≤ 400000) (h : Cu w cb a N cap P) :
    Calls Try.prog 13 #[.pointer (some ⟨cb, 0, none⟩)] w fun e w' => ∃ D : RttD, e = .returned (rttV D) ∧ smlRtt D ∧ Cu w' cb a N cap (P + 30) ∧ Kx cb w w' := by
  have hcb := h.lt
  obtain ⟨V0, hV0⟩ : ∃ V, V = (w.alloc (.cells #[.bool false, .int .i64 0, .int .i64 0, .int .i64 0, .int .i64 0] 24)).alloc (.cells #[.bool false, .int .i64 0, .int .i64 0, .int .i64 0, .int .i64 0] 24) := ⟨_, rfl⟩
  have R0 := hide (show Bx V0 w.heap.size (rttC ⟨false, 0, 0, 0, 0⟩) by rw [hV0]; exact (Bx.new w _ _).alloc _)
  have X0 := hide (show Bx V0 (w.heap.size + 1) (rttC ⟨false, 0, 0, 0, 0⟩) by rw [hV0]; exact Bx.newAt (w.alloc _) _ _ _ (by simp))
  have U0 := hide (show Cu V0 cb a N cap P by rw [hV0]; exact (h.alloc _).alloc _)
  have K0 := hide (show Kx cb w V0 by rw [hV0]; exact ((Kx.refl cb w).alloc _).alloc _)
  have HV0 := hide hV0
  have H00 := hide h
  clear h hV0
  go_enter Try.func13, Try.ntmps13
  go_upto_region 2 with fail
  rw [← unhide HV0]
  clear HV0
  go_wp2_with fail
  refine (pick_any cb a N cap P 4 _ hN (by omega) (by omega) (by omega) (unhide U0)).mono ?_
  rintro e w1 ⟨r1, rfl, q0, q1, u1, k1⟩
  obtain ⟨n1, rfl⟩ := Int.eq_ofNat_of_zero_le q0
  have R1 := hide (bx_kx (unhide R0) k1 (by omega))
  have X1 := hide (bx_kx (unhide X0) k1 (by omega))
  have U1 := hide u1
  have K1 := hide ((unhide K0).trans k1)
  clear u1 k1 R0 X0 U0 K0
  go_wp2_with fail
  go_loopw [4] (fun nv wr => ∃ (j n : Nat) (D : RttD), n + j ≤ 3 ∧ nv = .int .i64 n ∧ Hid (rtB D = true) ∧ Hid (Bx wr w.heap.size (rttC ⟨false, 0, 0, 0, 0⟩)) ∧ Hid (Bx wr (w.heap.size + 1) (rttC D)) ∧ Hid (Cu wr cb a N cap (P + 2 + 4 * j)) ∧ Hid (Kx cb w wr)) (fun nv _ => (intOf nv).toNat)
  case atStart => exact ⟨0, n1, ⟨false, 0, 0, 0, 0⟩, by omega, rfl, rfl, R1, X1, U1, K1⟩
  case round =>
    obtain ⟨j, n, D, hj, rfl, hD, hR, hX, hU, hK⟩ := hrel
    clear R1 X1 U1 K1
    by_cases hn : 0 < n
    · have hn0 : (0 : Int) < (n : Int) := by omega
      have UD := hide ((unhide hU).same (Below.refl _ _).drew)
      have XD := hide ((unhide hX).drew)
      have RD := hide ((unhide hR).drew)
      have KD := hide ((unhide hK).drew)
      have x0 := (unhide XD).cv
      have xf := (unhide XD).fz
      have xl := (unhide XD).lt
      have hlx := (unhide hX).lt
      have HS := hide (fun la de W => specSR D la de W)
      have hne : w.heap.size + 1 ≠ cb := by omega
      have hne2 : w.heap.size ≠ cb := by omega
      clear hR hX hU hK
      go_upto_region 5 with fail
      go_region_law (first
        | (go_simp; go_at_call 10; with_reducible refine (pick_any cb a N cap (P + 2 + 4 * j) 200 _ hN (by omega) (by omega) (by omega) (unhide UD)).mono ?_; rintro e w5 ⟨r5, rfl, p5, p5', u5, k5⟩; have x5 := (bx_kx (unhide XD) k5 hne).cv; have x5l := (bx_kx (unhide XD) k5 hne).lt)
        | (go_simp; go_at_call 10; with_reducible refine (pick_any cb a N cap (P + 2 + 4 * j + 2) 30 _ hN (by omega) (by omega) (by omega) u5).mono ?_; rintro e w6 ⟨r6, rfl, p6, p6', u6, k6⟩; have x6 := (bx_kx (bx_kx (unhide XD) k5 hne) k6 hne).cv; have x6l := (bx_kx (bx_kx (unhide XD) k5 hne) k6 hne).lt)
        | (go_simp; go_at_call 6; with_reducible refine (unhide HS _ _ _).mono ?_; rintro e w7 ⟨rfl, b7⟩; have x7 := ((bx_kx (bx_kx (unhide XD) k5 hne) k6 hne).below b7).cv; have x7f := ((bx_kx (bx_kx (unhide XD) k5 hne) k6 hne).below b7).fz; have x7l := ((bx_kx (bx_kx (unhide XD) k5 hne) k6 hne).below b7).lt))
      all_goals
        have E := hide (sr_good D r5 r6 (unhide hD))
        have Y7 := (bx_kx (bx_kx (unhide XD) k5 hne) k6 hne).below b7
        have R7 := (bx_kx (bx_kx (unhide RD) k5 hne2) k6 hne2).below b7
        have u7 := u6.same b7
        have k7 := ((unhide KD).trans (k5.trans k6)).trans (Kx.of b7)
        generalize srD D r5 r6 (srB D r5 r6) = E9 at *
        generalize srB D r5 r6 = r9 at *
        have y1 := Y7.set (i := 0) (u := .bool E9.kn) (by simp)
        have y2 := y1.set (i := 1) (u := .int .i64 E9.la) (by simp)
        have y3 := y2.set (i := 2) (u := .int .i64 E9.mi) (by simp)
        have y4 := y3.set (i := 3) (u := .int .i64 E9.sm) (by simp)
        have y5 := y4.set (i := 4) (u := .int .i64 E9.va) (by simp)
        have b1 := (Below.refl (w.heap.size + 1) w7).setCell (p := ⟨w.heap.size + 1, 0, none⟩) (Nat.le_refl _) (.bool E9.kn)
        have b2 := b1.setCell (p := ⟨w.heap.size + 1, 1, none⟩) (Nat.le_refl _) (.int .i64 E9.la)
        have b3 := b2.setCell (p := ⟨w.heap.size + 1, 2, none⟩) (Nat.le_refl _) (.int .i64 E9.mi)
        have b4 := b3.setCell (p := ⟨w.heap.size + 1, 3, none⟩) (Nat.le_refl _) (.int .i64 E9.sm)
        have bel9 := b4.setCell (p := ⟨w.heap.size + 1, 4, none⟩) (Nat.le_refl _) (.int .i64 E9.va)
        clear y1 y2 y3 y4 b1 b2 b3 b4
        generalize ((((w7.setCell ⟨w.heap.size + 1, 0, none⟩ (.bool E9.kn)).setCell ⟨w.heap.size + 1, 1, none⟩ (.int .i64 E9.la)).setCell ⟨w.heap.size + 1, 2, none⟩ (.int .i64 E9.mi)).setCell ⟨w.heap.size + 1, 3, none⟩ (.int .i64 E9.sm)).setCell ⟨w.heap.size + 1, 4, none⟩ (.int .i64 E9.va) = W8 at *
        have Y8 : Hid (Bx W8 (w.heap.size + 1) (rttC E9)) := y5
        have R8 := hide (R7.kept bel9.size (bel9.block _ (by omega)))
        have U8 := hide ((cu_bel (unhide H00) u7 bel9 (by omega)).mono (Q := P + 2 + 4 * (j + 1)) (by omega))
        have K8 := hide (kx_bel k7 bel9 (by omega))
        clear x0 xf xl x5 x5l x6 x6l x7 x7f x7l u5 u6 u7 k5 k6 k7 b7 Y7 R7 bel9 y5 UD XD RD KD HS hD
        obtain ⟨n, rfl⟩ : ∃ n', n = n' + 1 := ⟨n - 1, by omega⟩
        go_wp2
        exact ⟨⟨j + 1, n, E9, by omega, by go_num, E, R8, Y8, U8, K8⟩, by simp [intOf]⟩
    · obtain rfl : n = 0 := by omega
      have hsm := hide (good_sml (unhide hD))
      have hlx := (unhide hX).lt
      go_wp2_with fail
      refine (one_any cb a N cap (P + 2 + 4 * j) 30 _ hN (by omega) (by omega) (by omega) (unhide hU)).mono ?_
      rintro e w2 ⟨rb, rfl, u2, k2⟩
      have R2 := bx_kx (unhide hR) k2 (by omega)
      have X2 := bx_kx (unhide hX) k2 (by omega)
      have K2 := hide ((unhide hK).trans k2)
      have U2 := hide u2
      have x2 := X2.cv
      have x2l := X2.lt
      have r2 := R2.cv
      have r2f := R2.fz
      have r2l := R2.lt
      cases rb with
      | false =>
        clear k2 u2 hR hX hU hK R2 X2
        go_wp2
        refine bodyPost_ret (v := rttV D) (by simp [results, Try.results13, go_sem, r2]) rfl ⟨D, rfl, unhide hsm, ?_, ?_⟩
        · refine (cu_bel (B := w.heap.size) (unhide H00) (unhide U2) ?_ (Nat.le_refl _)).mono (by omega)
          iterate 5 refine Below.setCell ?_ (by simp) _
          exact Below.refl _ _
        · refine kx_bel (B := w.heap.size) (unhide K2) ?_ (Nat.le_refl _)
          iterate 5 refine Below.setCell ?_ (by simp) _
          exact Below.refl _ _
      | true =>
        obtain ⟨kn, la, mi, sm, va⟩ := D
        obtain ⟨⟨l0, l1⟩, hs2, hs3, hs4⟩ : (-1 ≤ la ∧ la ≤ 1000000001) ∧ (-1 ≤ mi ∧ mi ≤ 1000000001) ∧ (-1 ≤ sm ∧ sm ≤ 1000000001) ∧ (-1 ≤ va ∧ va ≤ 1000000001) := unhide hsm
        have lb : la ≤ 1000000000 := by
          have := unhide hD
          cases kn with
          | false => unfold rtB at this; simp at this; omega
          | true => unfold rtB at this; simp only [if_true, Bool.and_eq_true, decide_eq_true_eq] at this; omega
        have X2' := hide X2
        have R2' := hide R2
        have HS2 := hide (And.intro hs3 hs4)
        clear k2 u2 hR hX hU hK R2 X2 r2 r2f r2l hsm hs2 hs3 hs4 hD
        go_wp2_with fail
        refine (among_any cb a N cap (P + 2 + 4 * j + 2) w2.heap.size 3 3 (fun x => -1 ≤ x ∧ x ≤ 1000000001) _ hN (by omega) (by omega) (by omega) (by simp) (by have := (unhide U2).lt; omega)
          (lit_cells w2 [-1, la + 1, 1000000000] 3 _ (by intro x hx; simp at hx; rcases hx with rfl | rfl | rfl <;> omega)) ((unhide U2).alloc _)).mono ?_
        rintro e w3 ⟨r3, rfl, hp3, u3, k3⟩
        have X3 := bx_kx ((unhide X2').alloc _) k3 (by omega)
        have R3 := bx_kx ((unhide R2').alloc _) k3 (by omega)
        have K3 := hide (((unhide K2).alloc _).trans k3)
        have U3 := hide u3
        have x3 := X3.cv
        have x3f := X3.fz
        have x3l := X3.lt
        have r3c := R3.cv
        have r3f := R3.fz
        have r3l := R3.lt
        have HP3 := hide hp3
        clear hp3 u3 k3 x2 x2l X2' R2' X3 R3 U2 K2
        go_wp2
        refine bodyPost_ret (v := rttV ⟨kn, la, r3, sm, va⟩) (by simp [results, Try.results13, go_sem, r3c]) rfl ⟨⟨kn, la, r3, sm, va⟩, rfl, ⟨⟨l0, l1⟩, unhide HP3, (unhide HS2).1, (unhide HS2).2⟩, ?_, ?_⟩
        · refine (cu_bel (B := w.heap.size) (unhide H00) (unhide U3) ?_ (Nat.le_refl _)).mono (by omega)
          iterate 6 refine Below.setCell ?_ (by simp) _
          exact Below.refl _ _
        · refine kx_bel (B := w.heap.size) (unhide K3) ?_ (Nat.le_refl _)
          iterate 6 refine Below.setCell ?_ (by simp) _
          exact Below.refl _ _
set_option maxHeartbeats 2000000 in
theorem drawSR_any (a : Option Addr) (N cap : Nat) (w : World) (hN : N ≤ 1048576) (h : Cd w a N) :
    Calls Try.prog 4 #[.slice a N cap] w fun e w' => ∃ (D : RttD) (la de : Int), e = .returned (.tuple #[rttV D, .int .i64 la, .int .i64 de]) ∧ smlRtt D ∧ (-1 ≤ la ∧ la ≤ 1000000001) ∧ (0 ≤ de ∧ de ≤ 60) ∧ Below w.heap.size w w' := by
  obtain ⟨V0, hV0⟩ : ∃ V, V = (w.alloc (.cells #[.bool false, .int .i64 0, .int .i64 0, .int .i64 0, .int .i64 0] 24)).alloc (.cells #[.slice a N cap, .int .i64 0, .int .u64 0] 35) := ⟨_, rfl⟩
  have hA := (Below.refl w.heap.size w).alloc (Nat.le_refl _) (.cells #[.bool false, .int .i64 0, .int .i64 0, .int .i64 0, .int .i64 0] 24)
  have R0 := hide (show Bx V0 w.heap.size (rttC ⟨false, 0, 0, 0, 0⟩) by rw [hV0]; exact (Bx.new w _ _).alloc _)
  have U0 : Hid (Cu V0 (w.heap.size + 1) a N cap 0) := by
    have := cu_first cap 35 (h.below hA)
    rw [show (w.alloc (.cells #[.bool false, .int .i64 0, .int .i64 0, .int .i64 0, .int .i64 0] 24)).heap.size = w.heap.size + 1 by simp] at this
    rw [hV0]
    exact this
  have B0 := hide (show Below w.heap.size w V0 by rw [hV0]; exact hA.alloc (by simp) _)
  have HV0 := hide hV0
  clear h hV0 hA
  go_enter Try.func4, Try.ntmps4
  go_upto_region 2 with fail
  rw [← unhide HV0]
  clear HV0
  go_wp2_with fail
  refine (pick_any (w.heap.size + 1) a N cap 0 300 _ hN (by omega) (by omega) (by omega) (unhide U0)).mono ?_
  rintro e w1 ⟨n1, rfl, q0, q1, u1, k1⟩
  have R1 := hide (bx_kx (unhide R0) k1 (by omega))
  have B1 := hide ((unhide B0).trans (k1.below (by omega) (unhide B0).size))
  have U1 := hide u1
  clear u1 k1 R0 B0 U0
  go_wp2_with fail
  refine (one_any (w.heap.size + 1) a N cap (0 + 2) 20 _ hN (by omega) (by omega) (by omega) (unhide U1)).mono ?_
  rintro e w2 ⟨rb, rfl, u2, k2⟩
  have R2 := hide (bx_kx (unhide R1) k2 (by omega))
  have B2 := hide ((unhide B1).trans (k2.below (by omega) (unhide B1).size))
  have U2 := hide u2
  clear u2 k2 R1 B1 U1
  cases rb with
  | false =>
    go_wp2_with fail
    refine (rtt_any (w.heap.size + 1) a N cap (0 + 2 + 2) _ hN (by omega) (unhide U2)).mono ?_
    rintro e w3 ⟨D, rfl, s3, u3, k3⟩
    have R3 := hide (bx_kx (unhide R2) k3 (by omega))
    have B3 := hide ((unhide B2).trans (k3.below (by omega) (unhide B2).size))
    have U3 := hide u3
    have S3 := hide s3
    clear u3 k3 R2 B2 U2 s3
    go_wp2_with fail
    refine (pick_any (w.heap.size + 1) a N cap (0 + 2 + 2 + 30) 60 _ hN (by omega) (by omega) (by omega) (unhide U3)).mono ?_
    rintro e w4 ⟨n4, rfl, p0, p1, u4, k4⟩
    have r4 := (bx_kx (unhide R3) k4 (by omega)).cv
    have r4f := (bx_kx (unhide R3) k4 (by omega)).fz
    have r4l := (bx_kx (unhide R3) k4 (by omega)).lt
    have B4 := hide ((unhide B3).trans (k4.below (by omega) (unhide B3).size))
    clear u4 k4 R3 B3 U3
    go_wp2
    refine bodyPost_ret (v := .tuple #[rttV D, .int .i64 n1, .int .i64 n4]) (by simp [results, Try.results4, go_sem, r4]) rfl ⟨D, n1, n4, rfl, unhide S3, by omega, by omega, ?_⟩
    iterate 5 refine Below.setCell ?_ (by simp) _
    exact unhide B4
  | true =>
    go_wp2_with fail
    refine (among_any (w.heap.size + 1) a N cap (0 + 2 + 2) w2.heap.size 3 3 (fun x => -1 ≤ x ∧ x ≤ 1000000001) _ hN (by omega) (by omega) (by omega) (by simp) (by have := (unhide U2).lt; omega)
      (lit_cells w2 [-1, 1000000000, 1000000001] 3 _ (by decide)) ((unhide U2).alloc _)).mono ?_
    rintro e w5 ⟨n5, rfl, hp5, u5, k5⟩
    obtain ⟨h5, h5'⟩ := hp5
    have R5 := hide (bx_kx ((unhide R2).alloc _) k5 (by omega))
    have B5 := hide (((unhide B2).alloc (unhide B2).size _).trans (k5.below (by omega) (by have := (unhide B2).size; simp; omega)))
    have U5 := hide u5
    clear u5 k5 R2 B2 U2
    go_wp2_with fail
    refine (rtt_any (w.heap.size + 1) a N cap (0 + 2 + 2 + 2) _ hN (by omega) (unhide U5)).mono ?_
    rintro e w3 ⟨D, rfl, s3, u3, k3⟩
    have R3 := hide (bx_kx (unhide R5) k3 (by omega))
    have B3 := hide ((unhide B5).trans (k3.below (by omega) (unhide B5).size))
    have U3 := hide u3
    have S3 := hide s3
    clear u3 k3 R5 B5 U5 s3
    go_wp2_with fail
    refine (pick_any (w.heap.size + 1) a N cap (0 + 2 + 2 + 2 + 30) 60 _ hN (by omega) (by omega) (by omega) (unhide U3)).mono ?_
    rintro e w4 ⟨n4, rfl, p0, p1, u4, k4⟩
    have r4 := (bx_kx (unhide R3) k4 (by omega)).cv
    have r4f := (bx_kx (unhide R3) k4 (by omega)).fz
    have r4l := (bx_kx (unhide R3) k4 (by omega)).lt
    have B4 := hide ((unhide B3).trans (k4.below (by omega) (unhide B3).size))
    clear u4 k4 R3 B3 U3
    go_wp2
    refine bodyPost_ret (v := .tuple #[rttV D, .int .i64 n5, .int .i64 n4]) (by simp [results, Try.results4, go_sem, r4]) rfl ⟨D, n5, n4, rfl, unhide S3, ⟨h5, h5'⟩, by omega, ?_⟩
    iterate 5 refine Below.setCell ?_ (by simp) _
    exact unhide B4
set_option maxHeartbeats 2000000 in
theorem drawPT_any (a : Option Addr) (N cap : Nat) (w : World) (hN : N ≤ 1048576) (h : Cd w a N) :
    Calls Try.prog 7 #[.slice a N cap] w fun e w' => ∃ (D : RttD) (de tr : Int), e = .returned (.tuple #[rttV D, .int .i64 de, .int .i64 tr]) ∧ smlRtt D ∧ (0 ≤ de ∧ de ≤ 60) ∧ (-1 ≤ tr ∧ tr ≤ 11) ∧ Below w.heap.size w w' := by
  obtain ⟨V0, hV0⟩ : ∃ V, V = (w.alloc (.cells #[.bool false, .int .i64 0, .int .i64 0, .int .i64 0, .int .i64 0] 24)).alloc (.cells #[.slice a N cap, .int .i64 0, .int .u64 0] 35) := ⟨_, rfl⟩
  have hA := (Below.refl w.heap.size w).alloc (Nat.le_refl _) (.cells #[.bool false, .int .i64 0, .int .i64 0, .int .i64 0, .int .i64 0] 24)
  have R0 := hide (show Bx V0 w.heap.size (rttC ⟨false, 0, 0, 0, 0⟩) by rw [hV0]; exact (Bx.new w _ _).alloc _)
  have U0 : Hid (Cu V0 (w.heap.size + 1) a N cap 0) := by
    have := cu_first cap 35 (h.below hA)
    rw [show (w.alloc (.cells #[.bool false, .int .i64 0, .int .i64 0, .int .i64 0, .int .i64 0] 24)).heap.size = w.heap.size + 1 by simp] at this
    rw [hV0]
    exact this
  have B0 := hide (show Below w.heap.size w V0 by rw [hV0]; exact hA.alloc (by simp) _)
  have HV0 := hide hV0
  clear h hV0 hA
  go_enter Try.func7, Try.ntmps7
  go_upto_region 2 with fail
  rw [← unhide HV0]
  clear HV0
  go_wp2_with fail
  refine (rtt_any (w.heap.size + 1) a N cap 0 _ hN (by omega) (unhide U0)).mono ?_
  rintro e w3 ⟨D, rfl, s3, u3, k3⟩
  have R3 := hide (bx_kx (unhide R0) k3 (by omega))
  have B3 := hide ((unhide B0).trans (k3.below (by omega) (unhide B0).size))
  have U3 := hide u3
  have S3 := hide s3
  clear u3 k3 R0 B0 U0 s3
  go_wp2_with fail
  refine (pick_any (w.heap.size + 1) a N cap (0 + 30) 60 _ hN (by omega) (by omega) (by omega) (unhide U3)).mono ?_
  rintro e w4 ⟨n4, rfl, p0, p1, u4, k4⟩
  have R4 := hide (bx_kx (unhide R3) k4 (by omega))
  have B4 := hide ((unhide B3).trans (k4.below (by omega) (unhide B3).size))
  have U4 := hide u4
  clear u4 k4 R3 B3 U3
  go_wp2_with fail
  refine (pick_any (w.heap.size + 1) a N cap (0 + 30 + 2) 13 _ hN (by omega) (by omega) (by omega) (unhide U4)).mono ?_
  rintro e w5 ⟨n5, rfl, p2, p3, u5, k5⟩
  have r4 := (bx_kx (unhide R4) k5 (by omega)).cv
  have r4f := (bx_kx (unhide R4) k5 (by omega)).fz
  have r4l := (bx_kx (unhide R4) k5 (by omega)).lt
  have B5 := hide ((unhide B4).trans (k5.below (by omega) (unhide B4).size))
  clear u5 k5 R4 B4 U4
  go_wp2
  refine bodyPost_ret (v := .tuple #[rttV D, .int .i64 n4, .int .i64 (n5 - 1)]) (by simp [results, Try.results7, go_sem, r4]) rfl ⟨D, n4, n5 - 1, rfl, unhide S3, by omega, by omega, ?_⟩
  iterate 5 refine Below.setCell ?_ (by simp) _
  exact unhide B5
end Go.Proofs.Ytdnolfabdfdmpaa.Rc
