/-
  Contracts: windows that the model draws, and what the laws of windows draw.
-/
import Derived.Test.YtpjpmlopmknllaaDwn
import Derived.Deep.RegionHeld3
namespace Go.Proofs.Ytpjpmlopmknllaa.Rc
open Go.ChangeShapes Go.WideShapes Go.ChangeAt Go.RowKit Go.Deep
set_option linter.unusedVariables false
set_option maxRecDepth 100000

/-- its numbers are small -/
def smW (D : WindowD) : Prop := (-1 ≤ D.f0 ∧ D.f0 ≤ 1000000001) ∧ (-1 ≤ D.f1 ∧ D.f1 ≤ 1000000001) ∧ (-1 ≤ D.f2 ∧ D.f2 ≤ 1000000001) ∧ (-1 ≤ D.f3 ∧ D.f3 ≤ 1000000001)
theorem smW_ok {D : WindowD} (h : smW D) : okWindow D := by
  unfold smW at h
  unfold okWindow okI
  omega
theorem wg_sm {D : WindowD} (h : wgB D = true) : smW D := by
  have := wg_in h
  unfold smW
  omega
theorem nw_good : wgB nwD = true := rfl
set_option maxHeartbeats 8000000 in
theorem window_any (cb : Nat) (a : Option Addr) (N cap P : Nat) (w : World) (hN : N ≤ 1048576) (hP : P ≤ 300000) (h : Cu w cb a N cap P) :
    Calls Try.prog 28 #[.pointer (some ⟨cb, 0, none⟩)] w fun e w' => ∃ D : WindowD, e = .returned (windowV D) ∧ smW D ∧ Cu w' cb a N cap (P + 1310) ∧ Kx cb w w' := by
  have hcb := h.lt
  obtain ⟨V0, hV0⟩ : ∃ V, V = w.alloc (.cells #[.int .i64 0, .int .i64 0, .int .i64 0, .int .i64 0] 24) := ⟨_, rfl⟩
  have R0 := hide (show Bx V0 w.heap.size [.int .i64 0, .int .i64 0, .int .i64 0, .int .i64 0] by rw [hV0]; exact Bx.new w _ _)
  have U0 := hide (show Cu V0 cb a N cap P by rw [hV0]; exact h.alloc _)
  have K0 := hide (show Kx cb w V0 by rw [hV0]; exact (Kx.refl cb w).alloc _)
  have s0 : w.heap.size < V0.heap.size := (unhide R0).lt
  have H00 := hide h
  have HV0 := hide hV0
  clear h hV0
  go_enter Try.func28, Try.ntmps28
  go_upto_region 1 with fail
  rw [← unhide HV0]
  clear HV0
  go_wp2_with fail
  refine (grows_any cb a N cap P _ hN (by omega) (unhide U0)).mono ?_
  rintro e w1 ⟨v1, L, rfl, hL, _, o1, u1, k1⟩
  obtain ⟨a1, c1, rfl, _, i1⟩ := o1.form
  have HP := hide (specPW L (by omega) w1 a1 c1 (Ri.rd i1))
  have R1 := hide (bx_kx (unhide R0) k1 (by omega))
  have U1 := hide u1
  have K1 := hide ((unhide K0).trans k1)
  have s1 := k1.size
  clear o1 i1 u1 k1 R0 U0 K0
  go_wp2_with fail
  refine (unhide HP).mono ?_
  rintro e w2 ⟨a2, c2, g2, rfl, _, b2⟩
  generalize pwD L (pwB L) = E at *
  generalize pwL L (pwB L) = A at *
  generalize pwB L = r at *
  obtain ⟨V2, hV2⟩ : ∃ V, V = w2.alloc (.cells #[.int .i64 E.f0, .int .i64 E.f1, .int .i64 E.f2, .int .i64 E.f3] 24) := ⟨_, rfl⟩
  have AL : Below w2.heap.size w2 V2 := by rw [hV2]; exact (Below.refl _ _).alloc (Nat.le_refl _) _
  have bV := b2.trans (AL.mono b2.size)
  have X2 := hide (show Bx V2 w2.heap.size (windowC E) by rw [hV2]; exact Bx.new w2 _ _)
  have R2 := hide ((unhide R1).below bV)
  have U2 := hide ((unhide U1).same bV)
  have K2 := hide ((unhide K1).trans (Kx.of bV))
  have s2 := b2.size
  have s2' : w2.heap.size < V2.heap.size := (unhide X2).lt
  have HV2 := hide hV2
  clear hV2 AL bV b2 R1 U1 K1 HP
  go_upto_region 2 with fail
  rw [← unhide HV2]
  clear HV2
  have x2 := (unhide X2).cv
  have x2l := (unhide X2).lt
  have HG := hide (specWg E)
  go_wp2_with fail
  refine (unhide HG _).mono ?_
  rintro e w3 ⟨rfl, b3⟩
  have X3 := hide ((unhide X2).below b3)
  have R3 := hide ((unhide R2).below b3)
  have U3 := hide ((unhide U2).same b3)
  have K3 := hide ((unhide K2).trans (Kx.of b3))
  have s3 := b3.size
  clear b3 x2 x2l X2 R2 U2 K2 HG
  go_upto_if 15 with fail
  go_cut [] (fun wx => ∃ D : WindowD, Hid (wgB D = true) ∧ Hid (Bx wx w2.heap.size (windowC D)) ∧ Hid (Bx wx w.heap.size [.int .i64 0, .int .i64 0, .int .i64 0, .int .i64 0]) ∧ Hid (Cu wx cb a N cap (P + 1300)) ∧ Hid (Kx cb w wx))
  case first =>
    cases hg : wgB E with
    | true =>
      have HH := hide hg
      go_wp2
      go_meet
      exact ⟨E, HH, X3, R3, U3, K3⟩
    | false =>
      have HN := hide specNW
      clear hg
      go_wp2_with fail
      refine (unhide HN _).mono ?_
      rintro e w4 ⟨rfl, b4⟩
      have X4 := (unhide X3).below b4
      have x4 := X4.cv
      have x4f := X4.fz
      have x4l := X4.lt
      obtain ⟨w5, hw5⟩ : ∃ V, V = (((w4.setCell ⟨w2.heap.size, 0, none⟩ (.int .i64 nwD.f0)).setCell ⟨w2.heap.size, 1, none⟩ (.int .i64 nwD.f1)).setCell ⟨w2.heap.size, 2, none⟩ (.int .i64 nwD.f2)).setCell ⟨w2.heap.size, 3, none⟩ (.int .i64 nwD.f3) := ⟨_, rfl⟩
      have X5 := hide (show Bx w5 w2.heap.size (windowC nwD) by rw [hw5]; exact ((((X4.set (i := 0) (by simp)).set (i := 1) (by simp)).set (i := 2) (by simp)).set (i := 3) (by simp)))
      have k5 : Kq (fun q => q = w2.heap.size) w4 w5 := by rw [hw5]; exact (((((Kq.refl (fun q => q = w2.heap.size) w4).set rfl).set rfl).set rfl).set rfl)
      have b5 : Below w.heap.size w4 w5 := k5.below (by have := b4.size; omega) (fun q hq => by omega)
      have R5 := hide (((unhide R3).below b4).kept k5.size (k5.block _ ((unhide R3).below b4).lt (by omega)))
      have U5 := hide (cu_bel (unhide H00) ((unhide U3).same b4) b5 (Nat.le_refl _))
      have K5 := hide (kx_bel ((unhide K3).trans (Kx.of b4)) b5 (Nat.le_refl _))
      have HG5 := hide nw_good
      have HW5 := hide hw5
      clear hw5 k5 b5 b4 X4 X3 R3 U3 K3
      go_wp2
      rw [← unhide HW5]
      go_meet
      exact ⟨nwD, HG5, X5, R5, U5, K5⟩
  case rest =>
  obtain ⟨D, HG, X6, R6, U6, K6⟩ := hcut
  clear X3 R3 U3 K3
  obtain ⟨w6, hw6⟩ : ∃ V, V = wc := ⟨_, rfl⟩
  rw [← hw6] at X6 R6 U6 K6 ⊢
  clear hw6
  go_wp2_with fail
  refine (pickN cb a N cap (P + 1300) 40 _ hN (by omega) (by omega) (by omega) (unhide U6)).mono ?_
  rintro e w7 ⟨r7, rfl, q7, u7, k7⟩
  have X7 := hide (bx_kx (unhide X6) k7 (by omega))
  have R7 := hide (bx_kx (unhide R6) k7 (by omega))
  have K7 := hide ((unhide K6).trans k7)
  have U7 := hide u7
  have s7 := k7.size
  obtain ⟨⟨d00, d01⟩, ⟨d10, d11⟩, ⟨d20, d21⟩, ⟨d30, d31⟩⟩ := wg_in (unhide HG)
  obtain ⟨f0, f1, f2, f3⟩ := D
  dsimp only at d00 d01 d10 d11 d20 d21 d30 d31
  clear u7 k7 X6 R6 U6 K6 HG
  by_cases h0 : r7 = 0
  · have t0 : ((r7 : Int) == 0) = true := beq_iff_eq.2 (by omega)
    go_wp2_with fail
    refine (among_any cb a N cap (P + 1300 + 2) w7.heap.size 4 4 (fun x => -1 ≤ x ∧ x ≤ 1000000001) _ hN (by omega) (by omega) (by omega) (by simp) (by have := (unhide U7).lt; omega)
      (lit_cells w7 [2399, 2400, 100000000, 100000001] 3 _ (by decide)) ((unhide U7).alloc _)).mono ?_
    rintro e w8 ⟨x8, rfl, hp8, u8, k8⟩
    obtain ⟨h8, h8'⟩ := hp8
    have X8 := hide (bx_kx ((unhide X7).alloc (.cells #[.int .i64 2399, .int .i64 2400, .int .i64 100000000, .int .i64 100000001] 3)) k8 (by omega))
    have R8 := hide (bx_kx ((unhide R7).alloc (.cells #[.int .i64 2399, .int .i64 2400, .int .i64 100000000, .int .i64 100000001] 3)) k8 (by omega))
    have K8 := hide (((unhide K7).alloc (.cells #[.int .i64 2399, .int .i64 2400, .int .i64 100000000, .int .i64 100000001] 3)).trans k8)
    have U8 := hide u8
    clear u8 k8 X7 R7 K7 U7
    have xc := (unhide X8).cv
    have xl := (unhide X8).lt
    have xf := (unhide X8).fz
    have rc := (unhide R8).cv
    have rf := (unhide R8).fz
    have rl := (unhide R8).lt
    have UU := hide ((unhide U8).mono (Q := P + 1310) (by omega))
    go_wp2
    refine bodyPost_ret (v := .agg #[.int .i64 x8, .int .i64 f1, .int .i64 f2, .int .i64 f3]) (by simp [results, Try.results28, go_sem, rc]) rfl ⟨⟨x8, f1, f2, f3⟩, rfl, by unfold smW; dsimp only; omega, ?_, ?_⟩
    · refine cu_bel (B := w.heap.size) (unhide H00) (unhide UU) ?_ (Nat.le_refl _)
      repeat (refine Below.setCell ?_ (by simp <;> omega) _)
      exact Below.refl _ _
    · refine kx_bel (B := w.heap.size) (unhide K8) ?_ (Nat.le_refl _)
      repeat (refine Below.setCell ?_ (by simp <;> omega) _)
      exact Below.refl _ _
  by_cases h1 : r7 = 1
  · have t1 : ((r7 : Int) == 1) = true := beq_iff_eq.2 (by omega)
    have t0 : ((r7 : Int) == 0) = false := beq_eq_false_iff_ne.2 (by omega)
    go_wp2_with fail
    refine (among_any cb a N cap (P + 1300 + 2) w7.heap.size 3 3 (fun x => -1 ≤ x ∧ x ≤ 1000000001) _ hN (by omega) (by omega) (by omega) (by simp) (by have := (unhide U7).lt; omega)
      (lit_cells w7 [-1, 0, 100000000] 3 _ (by decide)) ((unhide U7).alloc _)).mono ?_
    rintro e w8 ⟨x8, rfl, hp8, u8, k8⟩
    obtain ⟨h8, h8'⟩ := hp8
    have X8 := hide (bx_kx ((unhide X7).alloc (.cells #[.int .i64 (-1), .int .i64 0, .int .i64 100000000] 3)) k8 (by omega))
    have R8 := hide (bx_kx ((unhide R7).alloc (.cells #[.int .i64 (-1), .int .i64 0, .int .i64 100000000] 3)) k8 (by omega))
    have K8 := hide (((unhide K7).alloc (.cells #[.int .i64 (-1), .int .i64 0, .int .i64 100000000] 3)).trans k8)
    have U8 := hide u8
    clear u8 k8 X7 R7 K7 U7
    have xc := (unhide X8).cv
    have xl := (unhide X8).lt
    have xf := (unhide X8).fz
    have rc := (unhide R8).cv
    have rf := (unhide R8).fz
    have rl := (unhide R8).lt
    have UU := hide ((unhide U8).mono (Q := P + 1310) (by omega))
    go_wp2
    refine bodyPost_ret (v := .agg #[.int .i64 f0, .int .i64 f1, .int .i64 f2, .int .i64 x8]) (by simp [results, Try.results28, go_sem, rc]) rfl ⟨⟨f0, f1, f2, x8⟩, rfl, by unfold smW; dsimp only; omega, ?_, ?_⟩
    · refine cu_bel (B := w.heap.size) (unhide H00) (unhide UU) ?_ (Nat.le_refl _)
      repeat (refine Below.setCell ?_ (by simp <;> omega) _)
      exact Below.refl _ _
    · refine kx_bel (B := w.heap.size) (unhide K8) ?_ (Nat.le_refl _)
      repeat (refine Below.setCell ?_ (by simp <;> omega) _)
      exact Below.refl _ _
  by_cases h2 : r7 = 2
  · have t0 : ((r7 : Int) == 0) = false := beq_eq_false_iff_ne.2 (by omega)
    have t1 : ((r7 : Int) == 1) = false := beq_eq_false_iff_ne.2 (by omega)
    have t2 : ((r7 : Int) == 2) = true := beq_iff_eq.2 (by omega)
    have xc := (unhide X7).cv
    have xl := (unhide X7).lt
    have xf := (unhide X7).fz
    have rc := (unhide R7).cv
    have rf := (unhide R7).fz
    have rl := (unhide R7).lt
    have UU := hide ((unhide U7).mono (Q := P + 1310) (by omega))
    go_wp2
    refine bodyPost_ret (v := .agg #[.int .i64 f0, .int .i64 2400, .int .i64 f2, .int .i64 f3]) (by simp [results, Try.results28, go_sem, rc]) rfl ⟨⟨f0, 2400, f2, f3⟩, rfl, by unfold smW; dsimp only; omega, ?_, ?_⟩
    · refine cu_bel (B := w.heap.size) (unhide H00) (unhide UU) ?_ (Nat.le_refl _)
      repeat (refine Below.setCell ?_ (by simp <;> omega) _)
      exact Below.refl _ _
    · refine kx_bel (B := w.heap.size) (unhide K7) ?_ (Nat.le_refl _)
      repeat (refine Below.setCell ?_ (by simp <;> omega) _)
      exact Below.refl _ _
  have t0 : ((r7 : Int) == 0) = false := beq_eq_false_iff_ne.2 (by omega)
  have t1 : ((r7 : Int) == 1) = false := beq_eq_false_iff_ne.2 (by omega)
  have t2 : ((r7 : Int) == 2) = false := beq_eq_false_iff_ne.2 (by omega)
  have xc := (unhide X7).cv
  have xl := (unhide X7).lt
  have xf := (unhide X7).fz
  have rc := (unhide R7).cv
  have rf := (unhide R7).fz
  have rl := (unhide R7).lt
  have UU := hide ((unhide U7).mono (Q := P + 1310) (by omega))
  go_wp2
  refine bodyPost_ret (v := .agg #[.int .i64 f0, .int .i64 f1, .int .i64 f2, .int .i64 f3]) (by simp [results, Try.results28, go_sem, rc]) rfl ⟨⟨f0, f1, f2, f3⟩, rfl, by unfold smW; dsimp only; omega, ?_, ?_⟩
  · refine cu_bel (B := w.heap.size) (unhide H00) (unhide UU) ?_ (Nat.le_refl _)
    repeat (refine Below.setCell ?_ (by simp <;> omega) _)
    exact Below.refl _ _
  · refine kx_bel (B := w.heap.size) (unhide K7) ?_ (Nat.le_refl _)
    repeat (refine Below.setCell ?_ (by simp <;> omega) _)
    exact Below.refl _ _
set_option maxHeartbeats 2000000 in
theorem drawAB_any (a : Option Addr) (N cap : Nat) (w : World) (hN : N ≤ 1048576) (h : Cd w a N) :
    Calls Try.prog 14 #[.slice a N cap] w fun e w' => ∃ (D : WindowD) (n t : Int), e = .returned (.tuple #[windowV D, .int .i64 n, .int .i64 t]) ∧ smW D ∧ (-50 ≤ n ∧ n ≤ 1650) ∧ (-1 ≤ t ∧ t ≤ 99) ∧ Below w.heap.size w w' := by
  obtain ⟨V0, hV0⟩ : ∃ V, V = (w.alloc (.cells #[.int .i64 0, .int .i64 0, .int .i64 0, .int .i64 0] 24)).alloc (.cells #[.slice a N cap, .int .i64 0, .int .u64 0] 49) := ⟨_, rfl⟩
  have hA := (Below.refl w.heap.size w).alloc (Nat.le_refl _) (.cells #[.int .i64 0, .int .i64 0, .int .i64 0, .int .i64 0] 24)
  have R0 := hide (show Bx V0 w.heap.size [.int .i64 0, .int .i64 0, .int .i64 0, .int .i64 0] by rw [hV0]; exact (Bx.new w _ _).alloc _)
  have U0 : Hid (Cu V0 (w.heap.size + 1) a N cap 0) := by
    have := cu_first cap 49 (h.below hA)
    rw [show (w.alloc (.cells #[.int .i64 0, .int .i64 0, .int .i64 0, .int .i64 0] 24)).heap.size = w.heap.size + 1 by simp] at this
    rw [hV0]
    exact this
  have B0 := hide (show Below w.heap.size w V0 by rw [hV0]; exact hA.alloc (by simp) _)
  have HV0 := hide hV0
  clear h hV0 hA
  go_enter Try.func14, Try.ntmps14
  go_upto_region 2 with fail
  rw [← unhide HV0]
  clear HV0
  go_wp2_with fail
  refine (window_any (w.heap.size + 1) a N cap 0 _ hN (by omega) (unhide U0)).mono ?_
  rintro e w1 ⟨D, rfl, sD, u1, k1⟩
  have R1 := hide (bx_kx (unhide R0) k1 (by omega))
  have B1 := hide ((unhide B0).trans (k1.below (by omega) (unhide B0).size))
  have U1 := hide u1
  have SD := hide sD
  clear u1 k1 R0 B0 U0 sD
  go_wp2_with fail
  refine (pickN (w.heap.size + 1) a N cap (0 + 1310) 1700 _ hN (by omega) (by omega) (by omega) (unhide U1)).mono ?_
  rintro e w2 ⟨n2, rfl, q2, u2, k2⟩
  have R2 := hide (bx_kx (unhide R1) k2 (by omega))
  have B2 := hide ((unhide B1).trans (k2.below (by omega) (unhide B1).size))
  have U2 := hide u2
  have m2 : IntKind.i64.wrap ((n2 : Int) - 50) = (n2 : Int) - 50 := by rw [IntKind.wrap_i64]; omega
  clear u2 k2 R1 B1 U1
  go_wp2_with fail
  refine (pickN (w.heap.size + 1) a N cap (0 + 1310 + 2) 100 _ hN (by omega) (by omega) (by omega) (unhide U2)).mono ?_
  rintro e w3 ⟨n3, rfl, q3, u3, k3⟩
  have R3 := hide (bx_kx (unhide R2) k3 (by omega))
  have B3 := hide ((unhide B2).trans (k3.below (by omega) (unhide B2).size))
  have U3 := hide u3
  have m3 : IntKind.i64.wrap ((n3 : Int) - 1) = (n3 : Int) - 1 := by rw [IntKind.wrap_i64]; omega
  clear u3 k3 R2 B2 U2
  have rc := (unhide R3).cv
  have rf := (unhide R3).fz
  have rl := (unhide R3).lt
  go_wp2
  refine bodyPost_ret (v := .tuple #[windowV D, .int .i64 ((n2 : Int) - 50), .int .i64 ((n3 : Int) - 1)]) (by simp [results, Try.results14, go_sem, rc]) rfl ⟨D, (n2 : Int) - 50, (n3 : Int) - 1, rfl, unhide SD, by omega, by omega, ?_⟩
  repeat (refine Below.setCell ?_ (by simp <;> omega) _)
  exact unhide B3
set_option maxHeartbeats 2000000 in
theorem drawSB_any (a : Option Addr) (N cap : Nat) (w : World) (hN : N ≤ 1048576) (h : Cd w a N) :
    Calls Try.prog 9 #[.slice a N cap] w fun e w' => ∃ (D : WindowD) (n : Int), e = .returned (.tuple #[windowV D, .int .i64 n]) ∧ smW D ∧ (-50 ≤ n ∧ n ≤ 1650) ∧ Below w.heap.size w w' := by
  obtain ⟨V0, hV0⟩ : ∃ V, V = (w.alloc (.cells #[.int .i64 0, .int .i64 0, .int .i64 0, .int .i64 0] 24)).alloc (.cells #[.slice a N cap, .int .i64 0, .int .u64 0] 49) := ⟨_, rfl⟩
  have hA := (Below.refl w.heap.size w).alloc (Nat.le_refl _) (.cells #[.int .i64 0, .int .i64 0, .int .i64 0, .int .i64 0] 24)
  have R0 := hide (show Bx V0 w.heap.size [.int .i64 0, .int .i64 0, .int .i64 0, .int .i64 0] by rw [hV0]; exact (Bx.new w _ _).alloc _)
  have U0 : Hid (Cu V0 (w.heap.size + 1) a N cap 0) := by
    have := cu_first cap 49 (h.below hA)
    rw [show (w.alloc (.cells #[.int .i64 0, .int .i64 0, .int .i64 0, .int .i64 0] 24)).heap.size = w.heap.size + 1 by simp] at this
    rw [hV0]
    exact this
  have B0 := hide (show Below w.heap.size w V0 by rw [hV0]; exact hA.alloc (by simp) _)
  have HV0 := hide hV0
  clear h hV0 hA
  go_enter Try.func9, Try.ntmps9
  go_upto_region 2 with fail
  rw [← unhide HV0]
  clear HV0
  go_wp2_with fail
  refine (window_any (w.heap.size + 1) a N cap 0 _ hN (by omega) (unhide U0)).mono ?_
  rintro e w1 ⟨D, rfl, sD, u1, k1⟩
  have R1 := hide (bx_kx (unhide R0) k1 (by omega))
  have B1 := hide ((unhide B0).trans (k1.below (by omega) (unhide B0).size))
  have U1 := hide u1
  have SD := hide sD
  clear u1 k1 R0 B0 U0 sD
  go_wp2_with fail
  refine (pickN (w.heap.size + 1) a N cap (0 + 1310) 1700 _ hN (by omega) (by omega) (by omega) (unhide U1)).mono ?_
  rintro e w2 ⟨n2, rfl, q2, u2, k2⟩
  have R2 := hide (bx_kx (unhide R1) k2 (by omega))
  have B2 := hide ((unhide B1).trans (k2.below (by omega) (unhide B1).size))
  have U2 := hide u2
  have m2 : IntKind.i64.wrap ((n2 : Int) - 50) = (n2 : Int) - 50 := by rw [IntKind.wrap_i64]; omega
  clear u2 k2 R1 B1 U1
  have rc := (unhide R2).cv
  have rf := (unhide R2).fz
  have rl := (unhide R2).lt
  go_wp2
  refine bodyPost_ret (v := .tuple #[windowV D, .int .i64 ((n2 : Int) - 50)]) (by simp [results, Try.results9, go_sem, rc]) rfl ⟨D, (n2 : Int) - 50, rfl, unhide SD, by omega, ?_⟩
  repeat (refine Below.setCell ?_ (by simp <;> omega) _)
  exact unhide B2
set_option maxHeartbeats 4000000 in
theorem drawLB_any (a : Option Addr) (N cap : Nat) (w : World) (hN : N ≤ 1048576) (h : Cd w a N) :
    Calls Try.prog 5 #[.slice a N cap] w fun e w' => ∃ (D : WindowD) (n t now : Int), e = .returned (.tuple #[windowV D, .int .i64 n, .int .i64 t, .int .i64 now]) ∧ smW D ∧ (-50 ≤ n ∧ n ≤ 1650) ∧ (-1 ≤ t ∧ t ≤ 99) ∧ (-1 ≤ now ∧ now ≤ 119) ∧ Below w.heap.size w w' := by
  obtain ⟨V0, hV0⟩ : ∃ V, V = w.alloc (.cells #[.int .i64 0, .int .i64 0, .int .i64 0, .int .i64 0] 24) := ⟨_, rfl⟩
  have hA : Below w.heap.size w V0 := by rw [hV0]; exact (Below.refl w.heap.size w).alloc (Nat.le_refl _) _
  have R0 := hide (show Bx V0 w.heap.size [.int .i64 0, .int .i64 0, .int .i64 0, .int .i64 0] by rw [hV0]; exact Bx.new w _ _)
  have C0 := hide (h.below hA)
  have B0 := hide hA
  have HV0 := hide hV0
  clear h hV0 hA
  go_enter Try.func5, Try.ntmps5
  go_upto_region 1 with fail
  rw [← unhide HV0]
  clear HV0
  go_wp2_with fail
  refine (drawAB_any a N cap _ hN (unhide C0)).mono ?_
  rintro e w1 ⟨D, n, t, rfl, sD, hn, ht, b1⟩
  obtain ⟨V2, hV2⟩ : ∃ V, V = (w1.alloc (.cells #[.int .i64 D.f0, .int .i64 D.f1, .int .i64 D.f2, .int .i64 D.f3] 24)).alloc (.cells #[.slice a N cap, .int .i64 0, .int .u64 0] 49) := ⟨_, rfl⟩
  have hA := (Below.refl w1.heap.size w1).alloc (Nat.le_refl _) (.cells #[.int .i64 D.f0, .int .i64 D.f1, .int .i64 D.f2, .int .i64 D.f3] 24)
  have AL : Below w1.heap.size w1 V2 := by rw [hV2]; exact hA.alloc (by simp) _
  have bV := b1.trans (AL.mono b1.size)
  have X2 := hide (show Bx V2 w1.heap.size (windowC D) by rw [hV2]; exact (Bx.new w1 _ _).alloc _)
  have U2 : Hid (Cu V2 (w1.heap.size + 1) a N cap 0) := by
    have := cu_first cap 49 (((unhide C0).below b1).below hA)
    rw [show (w1.alloc (.cells #[.int .i64 D.f0, .int .i64 D.f1, .int .i64 D.f2, .int .i64 D.f3] 24)).heap.size = w1.heap.size + 1 by simp] at this
    rw [hV2]
    exact this
  have R2 := hide ((unhide R0).below bV)
  have B2 := hide ((unhide B0).trans (bV.mono (unhide B0).size))
  have s1 : w.heap.size < w1.heap.size := Nat.lt_of_lt_of_le (unhide R0).lt b1.size
  have s2 := (unhide U2).lt
  have HV2 := hide hV2
  have HB := hide (And.intro sD (And.intro hn ht))
  clear hV2 hA AL bV b1 R0 B0 C0 sD hn ht
  go_upto_region 3 with fail
  rw [← unhide HV2]
  clear HV2
  refine wp_region_noPanic ?_
  refine wp_region_held_drew (S := fun V => Kq (fun q => q = w.heap.size ∨ q = w1.heap.size + 1) V2 V) (by kernel_rfl) (Kq.of (Below.refl _ _).drew) (fun hHeld => ?_)
  refine wpAnyH_take (i := 0) (v := ?_) rfl (by kernel_rfl) (by kernel_rfl) (by kernel_rfl) (fun _ _ _ h => h) (Or.inl ⟨by rfl, ?_⟩) hHeld ?_
  rotate_left
  · intro V hSw; have y1 := (Bx.kq (unhide X2) hSw (by omega)).cv; have y1l := (Bx.kq (unhide X2) hSw (by omega)).lt; go_simp; rfl
  try simp only [Act.put, List.getElem_toArray, List.getElem_cons_zero, List.setIfInBounds_toArray, List.set_cons_zero, List.set_cons_succ]
  refine wpAnyH_take (i := 1) (v := ?_) rfl (by kernel_rfl) (by kernel_rfl) (by kernel_rfl) (fun _ _ _ h => h) (Or.inl ⟨by rfl, ?_⟩) hHeld ?_
  rotate_left
  · intro V hSw; have y1 := (Bx.kq (unhide X2) hSw (by omega)).cv; have y1l := (Bx.kq (unhide X2) hSw (by omega)).lt; go_simp; rfl
  try simp only [Act.put, List.getElem_toArray, List.getElem_cons_succ, List.getElem_cons_zero, List.setIfInBounds_toArray, List.set_cons_zero, List.set_cons_succ]
  refine wpAnyH_take (i := 2) (v := ?_) rfl (by kernel_rfl) (by kernel_rfl) (by kernel_rfl) (fun _ _ _ h => h) (Or.inl ⟨by rfl, ?_⟩) hHeld ?_
  rotate_left
  · intro V hSw; have y1 := (Bx.kq (unhide X2) hSw (by omega)).cv; have y1l := (Bx.kq (unhide X2) hSw (by omega)).lt; go_simp; rfl
  try simp only [Act.put, List.getElem_toArray, List.getElem_cons_succ, List.getElem_cons_zero, List.setIfInBounds_toArray, List.set_cons_zero, List.set_cons_succ]
  refine wpAnyH_take (i := 3) (v := ?_) rfl (by kernel_rfl) (by kernel_rfl) (by kernel_rfl) (fun _ _ _ h => h) (Or.inl ⟨by rfl, ?_⟩) hHeld ?_
  rotate_left
  · intro V hSw; have y1 := (Bx.kq (unhide X2) hSw (by omega)).cv; have y1l := (Bx.kq (unhide X2) hSw (by omega)).lt; go_simp; rfl
  try simp only [Act.put, List.getElem_toArray, List.getElem_cons_succ, List.getElem_cons_zero, List.setIfInBounds_toArray, List.set_cons_zero, List.set_cons_succ]
  refine wpAnyH_ready (rs := [4]) (by kernel_rfl) (by simp) ?_
  refine (AllReadyH.cons rfl (fun K hK => ?_) AllReadyH.nil)
  go_simp
  go_at_call 21
  refine (pickN (w1.heap.size + 1) a N cap 0 120 _ hN (by omega) (by omega) (by omega) ((unhide U2).same (Below.refl _ _).drew)).mono ?_
  rintro e w4 ⟨n4, rfl, q4, u4, k4⟩
  have R4 := hide (bx_kx ((unhide R2).drew) k4 (by omega))
  have m4 : IntKind.i64.wrap ((n4 : Int) - 1) = (n4 : Int) - 1 := by rw [IntKind.wrap_i64]; omega
  refine hK.out _ _ (hHeld.trans ((kx_kq k4).imp (fun q hq => Or.inr hq))) (fun hHeld => ?_)
  clear hK K u4 k4
  try simp only [Act.put, List.getElem_toArray, List.getElem_cons_succ, List.getElem_cons_zero, List.setIfInBounds_toArray, List.set_cons_zero, List.set_cons_succ]
  refine wpAnyH_take (i := 5) (v := ?_) rfl (by kernel_rfl) (by kernel_rfl) (by kernel_rfl) (fun _ _ _ h => h) (Or.inl ⟨by rfl, ?_⟩) hHeld ?_
  rotate_left
  · intro V hSw; go_simp; rfl
  try simp only [Act.put, List.getElem_toArray, List.getElem_cons_succ, List.getElem_cons_zero, List.setIfInBounds_toArray, List.set_cons_zero, List.set_cons_succ]
  have z1 := (unhide R4).cv
  have z2 := (unhide R4).fz
  have z3 := (unhide R4).lt
  have k6 : Kq (fun q => q = w.heap.size ∨ q = w1.heap.size + 1) w4 ((((w4.setCell ⟨w.heap.size, 0, none⟩ (.int .i64 D.f0)).setCell ⟨w.heap.size, 1, none⟩ (.int .i64 D.f1)).setCell ⟨w.heap.size, 2, none⟩ (.int .i64 D.f2)).setCell ⟨w.heap.size, 3, none⟩ (.int .i64 D.f3)) := ((((Kq.refl _ _).set (Or.inl rfl)).set (Or.inl rfl)).set (Or.inl rfl)).set (Or.inl rfl)
  have R6 := (((((unhide R4).set (i := 0) (u := .int .i64 D.f0) (by simp)).set (i := 1) (u := .int .i64 D.f1) (by simp)).set (i := 2) (u := .int .i64 D.f2) (by simp)).set (i := 3) (u := .int .i64 D.f3) (by simp))
  refine wpAnyH_ready (rs := [6]) (by kernel_rfl) (by simp) ?_
  refine (AllReadyH.cons rfl (fun K hK => ?_) AllReadyH.nil)
  go_simp
  refine hK.out _ _ (hHeld.trans k6) (fun hHeld => ?_)
  clear hK K
  try simp only [Act.put, List.getElem_toArray, List.getElem_cons_succ, List.getElem_cons_zero, List.setIfInBounds_toArray, List.set_cons_zero, List.set_cons_succ]
  refine wpAnyH_take (i := 7) (v := ?_) rfl (by kernel_rfl) (by kernel_rfl) (by kernel_rfl) (fun _ _ _ h => h) (Or.inl ⟨by rfl, ?_⟩) hHeld ?_
  rotate_left
  · intro V hSw; go_simp; rfl
  try simp only [Act.put, List.getElem_toArray, List.getElem_cons_succ, List.getElem_cons_zero, List.setIfInBounds_toArray, List.set_cons_zero, List.set_cons_succ]
  refine wpAnyH_take (i := 8) (v := ?_) rfl (by kernel_rfl) (by kernel_rfl) (by kernel_rfl) (fun _ _ _ h => h) (Or.inl ⟨by rfl, ?_⟩) hHeld ?_
  rotate_left
  · intro V hSw; go_simp; rfl
  try simp only [Act.put, List.getElem_toArray, List.getElem_cons_succ, List.getElem_cons_zero, List.setIfInBounds_toArray, List.set_cons_zero, List.set_cons_succ]
  refine wpAnyH_take (i := 9) (v := ?_) rfl (by kernel_rfl) (by kernel_rfl) (by kernel_rfl) (fun _ _ _ h => h) (Or.inl ⟨by rfl, ?_⟩) hHeld ?_
  rotate_left
  · intro V hSw; go_simp; rfl
  try simp only [Act.put, List.getElem_toArray, List.getElem_cons_succ, List.getElem_cons_zero, List.setIfInBounds_toArray, List.set_cons_zero, List.set_cons_succ]
  refine wpAnyH_done (by kernel_rfl) ?_ _
  refine NoPanic.normal ?_
  have BB := hide ((unhide B2).trans (hHeld.below (base := w.heap.size) (unhide B2).size (fun q hq => by omega)))
  have r6 := R6.cv
  clear hHeld z1 z2 z3 k6 R6
  go_wp2
  refine bodyPost_ret (v := .tuple #[windowV D, .int .i64 n, .int .i64 t, .int .i64 ((n4 : Int) - 1)]) (by simp [results, Try.results5, go_sem, r6]) rfl ⟨D, n, t, (n4 : Int) - 1, rfl, (unhide HB).1, (unhide HB).2.1, (unhide HB).2.2, by omega, unhide BB⟩
end Go.Proofs.Ytpjpmlopmknllaa.Rc
