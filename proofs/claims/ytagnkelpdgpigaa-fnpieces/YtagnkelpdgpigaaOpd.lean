/-
  What is drawn to go out.
-/
import Derived.Test.YtagnkelpdgpigaaXsd
import Derived.Test.YtagnkelpdgpigaaOfw
import Derived.Deep.DeepCutAuto
namespace Go.Proofs.Ytagnkelpdgpigaa.Rc
open Go.ChangeShapes Go.WideShapes Go.ChangeAt Go.RowKit Go.Deep
set_option linter.unusedVariables false
set_option maxRecDepth 100000

theorem bxk9 {cb g : Nat} {w w' : World} {xs : List Value} (h : Bx w g xs) (k : Kx cb w w') (hne : g ≠ cb) : Bx w' g xs := h.kept k.size (k.block g h.lt hne)
set_option maxHeartbeats 4000000 in
theorem outflow_any (cb : Nat) (a : Option Addr) (N cap P : Nat) (w : World) (hN : N ≤ 1048576) (hP : P ≤ 300000) (h : Cu w cb a N cap P) :
    Calls Try.prog 10 #[.pointer (some ⟨cb, 0, none⟩)] w fun e w' => ∃ D : OutflowD, e = .returned (outflowV D) ∧ D.f2.size ≤ 59 ∧ 0 ≤ D.f1 ∧ Cu w' cb a N cap (P + 100) ∧ Kx cb w w' := by
  have HU := hide h
  have hcb := h.lt
  have hne0 : w.heap.size ≠ cb := by omega
  obtain ⟨V, hV⟩ : ∃ V, V = w.alloc (.cells #[.int .i64 0, .int .i64 0, .string ⟨#[]⟩, .bool false] 24) := ⟨_, rfl⟩
  have U0 : Hid (Cu V cb a N cap P) := by show Cu _ _ _ _ _ _; rw [hV]; exact h.same ((Below.refl _ _).alloc (Nat.le_refl _) _)
  have K0 : Hid (Kx cb w V) := by show Kx _ _ _; rw [hV]; exact (Kx.refl _ _).alloc _
  have X0 : Hid (Bx V w.heap.size [.int .i64 0, .int .i64 0, .string ⟨#[]⟩, .bool false]) := by show Bx _ _ _; rw [hV]; exact Bx.new w _ _
  have HV := hide hV
  clear hV h
  go_enter Try.func10, Try.ntmps10
  go_upto_region 1 with fail
  rw [← unhide HV]
  clear HV
  go_wp2_with fail
  refine (pick_any cb a N cap P 80 _ hN (by omega) (by omega) (by omega) (unhide U0)).mono ?_
  rintro e w1 ⟨lm, rfl, hl0, hl1, u1, k1⟩
  have X1 := hide (bxk9 (unhide X0) k1 hne0)
  have K1 := hide ((unhide K0).trans k1)
  have U1 := hide u1
  clear u1 k1 X0 K0 U0
  go_wp2_with fail
  refine (streamData_any cb a N cap (P + 2) _ hN (by omega) (unhide U1)).mono ?_
  rintro e w2 ⟨t, rfl, ht, u2, k2⟩
  have X2 := hide (bxk9 (unhide X1) k2 hne0)
  have K2 := hide ((unhide K1).trans k2)
  have U2 := hide u2
  clear u2 k2 X1 K1 U1
  go_wp2_with fail
  refine (one_any cb a N cap (P + 2 + 10) 2 _ hN (by omega) (by omega) (by omega) (unhide U2)).mono ?_
  rintro e w3 ⟨en, rfl, u3, k3⟩
  have X3 := hide (bxk9 (unhide X2) k3 hne0)
  have K3 := hide ((unhide K2).trans k3)
  have szK := (unhide K3).size
  have hgx := (unhide X3).lt
  obtain ⟨V4, hV4⟩ : ∃ V4, V4 = w3.alloc (.cells #[.int .i64 lm, .int .i64 0, .string t, .bool en] 24) := ⟨_, rfl⟩
  have U4 : Hid (Cu V4 cb a N cap (P + 14)) := by show Cu _ _ _ _ _ _; rw [hV4]; exact (u3.same ((Below.refl _ _).alloc (Nat.le_refl _) _)).mono (by omega)
  have K4 : Hid (Kx cb w V4) := by show Kx _ _ _; rw [hV4]; exact (unhide K3).alloc _
  have X4 : Hid (Bx V4 w.heap.size [.int .i64 0, .int .i64 0, .string ⟨#[]⟩, .bool false]) := by show Bx _ _ _; rw [hV4]; exact (unhide X3).alloc _
  have Y4 : Hid (Bx V4 w3.heap.size [.int .i64 lm, .int .i64 0, .string t, .bool en]) := by show Bx _ _ _; rw [hV4]; exact Bx.new w3 _ _
  have HV4 := hide hV4
  have hne3 : w3.heap.size ≠ cb := by have := u3.lt; omega
  clear u3 k3 X2 K2 U2 X3 K3 hV4
  obtain ⟨g, hg⟩ : ∃ g, w3.heap.size = g := ⟨_, rfl⟩
  rw [hg] at Y4 hne3 szK hgx
  have HG := hide hg
  clear hg
  go_upto_region 2 with fail
  rw [← unhide HV4, unhide HG]
  clear HV4 HG
  have y0 := (unhide Y4).cv
  have yl := (unhide Y4).lt
  have wn : IntKind.i64.wrap ((t.size : Int) + 1) = ((t.size + 1 : Nat) : Int) := by rw [wraps_i64 _ (by omega) (by omega)]; omega
  go_wp2_with fail
  refine (pickN cb a N cap (P + 14) (t.size + 1) _ hN (by omega) (by omega) (by omega) (unhide U4)).mono ?_
  rintro e w5 ⟨st, rfl, hs0, u5, k5⟩
  have X5 := hide (bxk9 (unhide X4) k5 hne0)
  have Y5 := hide (bxk9 (unhide Y4) k5 hne3)
  have K5 := hide ((unhide K4).trans k5)
  have X6 := hide (fun u => (unhide X5).other (c := g) (i := 1) (u := u) (by omega))
  have Y6 := hide (fun u => (unhide Y5).set (i := 1) (u := u) (by simp))
  have K6 := hide (fun u => (unhide K5).setNew (p := ⟨g, 1, none⟩) szK u)
  have U6 := hide (fun u => Cu.setNew (unhide HU) u5 (g := g) szK 1 u)
  clear y0 yl wn
  have y0 := (unhide Y5).cv
  have yl := (unhide Y5).lt
  have yf := (unhide Y5).fz
  clear u5 k5 X4 Y4 K4 U4 X5 K5
  go_upto_region 3 with fail
  obtain ⟨W7, hW7⟩ : ∃ W, W = w5.setCell ⟨g, 1, none⟩ (.int .i64 (st : Int)) := ⟨_, rfl⟩
  have X7 : Hid (Bx W7 w.heap.size [.int .i64 0, .int .i64 0, .string ⟨#[]⟩, .bool false]) := by show Bx _ _ _; rw [hW7]; exact unhide X6 _
  have Y7 : Hid (Bx W7 g [.int .i64 lm, .int .i64 (st : Int), .string t, .bool en]) := by show Bx _ _ _; rw [hW7]; exact unhide Y6 _
  have K7 : Hid (Kx cb w W7) := by show Kx _ _ _; rw [hW7]; exact unhide K6 _
  have U7 : Hid (Cu W7 cb a N cap (P + 14 + 2)) := by show Cu _ _ _ _ _ _; rw [hW7]; exact unhide U6 _
  rw [← hW7]
  clear hW7 X6 Y6 K6 U6 y0 yl yf Y5
  have y0 := (unhide Y7).cv
  have yl := (unhide Y7).lt
  by_cases hgt : lm < (st : Int)
  · go_wp2_with fail
    refine (one_any cb a N cap (P + 14 + 2) 12 _ hN (by omega) (by omega) (by omega) (unhide U7)).mono ?_
    rintro e w8 ⟨rb, rfl, u8, k8⟩
    have X8 := hide (bxk9 (unhide X7) k8 hne0)
    have Y8 := hide (bxk9 (unhide Y7) k8 hne3)
    have K8 := hide ((unhide K7).trans k8)
    clear y0 yl
    cases rb with
    | true =>
      have UE := hide (fun u0 u1 u2 u3 => (Cu.setNew (unhide HU) (Cu.setNew (unhide HU) (Cu.setNew (unhide HU) (Cu.setNew (unhide HU) u8 (g := w.heap.size) (Nat.le_refl _) 0 u0) (g := w.heap.size) (Nat.le_refl _) 1 u1) (g := w.heap.size) (Nat.le_refl _) 2 u2) (g := w.heap.size) (Nat.le_refl _) 3 u3).mono (Q := P + 100) (by omega))
      have KE := hide (fun u0 u1 u2 u3 => ((((unhide K8).setNew (p := ⟨w.heap.size, 0, none⟩) (Nat.le_refl _) u0).setNew (p := ⟨w.heap.size, 1, none⟩) (Nat.le_refl _) u1).setNew (p := ⟨w.heap.size, 2, none⟩) (Nat.le_refl _) u2).setNew (p := ⟨w.heap.size, 3, none⟩) (Nat.le_refl _) u3)
      have p0 := (unhide Y8).cv
      have pl := (unhide Y8).lt
      have r0 := (unhide X8).cv
      have rl := (unhide X8).lt
      have rf := (unhide X8).fz
      clear u8 k8 X7 Y7 K7 U7 X8 Y8 K8
      go_wp2_with fail
      refine bodyPost_ret (v := outflowV ⟨lm, st, t, en⟩) (by simp [results, Try.results10, go_sem, r0]) rfl ?_
      exact ⟨⟨lm, st, t, en⟩, rfl, ht, (by show (0 : Int) ≤ (st : Int); omega), unhide UE _ _ _ _, unhide KE _ _ _ _⟩
    | false =>
      have X9 := hide (fun u => (unhide X8).other (c := g) (i := 1) (u := u) (by omega))
      have Y9 := hide (fun u => (unhide Y8).set (i := 1) (u := u) (by simp))
      have K9 := hide (fun u => (unhide K8).setNew (p := ⟨g, 1, none⟩) szK u)
      have U9 := hide (fun u => Cu.setNew (unhide HU) u8 (g := g) szK 1 u)
      have y0 := (unhide Y8).cv
      have yl := (unhide Y8).lt
      have yf := (unhide Y8).fz
      clear u8 k8 X7 Y7 K7 U7 X8 K8
      go_upto_region 5 with fail
      obtain ⟨WA, hWA⟩ : ∃ W, W = w8.setCell ⟨g, 1, none⟩ (.int .i64 lm) := ⟨_, rfl⟩
      have XA : Hid (Bx WA w.heap.size [.int .i64 0, .int .i64 0, .string ⟨#[]⟩, .bool false]) := by show Bx _ _ _; rw [hWA]; exact unhide X9 _
      have YA : Hid (Bx WA g [.int .i64 lm, .int .i64 lm, .string t, .bool en]) := by show Bx _ _ _; rw [hWA]; exact unhide Y9 _
      have KA : Hid (Kx cb w WA) := by show Kx _ _ _; rw [hWA]; exact unhide K9 _
      have UA : Hid (Cu WA cb a N cap (P + 14 + 2 + 2)) := by show Cu _ _ _ _ _ _; rw [hWA]; exact unhide U9 _
      rw [← hWA]
      clear hWA X9 Y9 K9 U9 y0 yl yf Y8
      have UE := hide (fun u0 u1 u2 u3 => (Cu.setNew (unhide HU) (Cu.setNew (unhide HU) (Cu.setNew (unhide HU) (Cu.setNew (unhide HU) (unhide UA) (g := w.heap.size) (Nat.le_refl _) 0 u0) (g := w.heap.size) (Nat.le_refl _) 1 u1) (g := w.heap.size) (Nat.le_refl _) 2 u2) (g := w.heap.size) (Nat.le_refl _) 3 u3).mono (Q := P + 100) (by omega))
      have KE := hide (fun u0 u1 u2 u3 => ((((unhide KA).setNew (p := ⟨w.heap.size, 0, none⟩) (Nat.le_refl _) u0).setNew (p := ⟨w.heap.size, 1, none⟩) (Nat.le_refl _) u1).setNew (p := ⟨w.heap.size, 2, none⟩) (Nat.le_refl _) u2).setNew (p := ⟨w.heap.size, 3, none⟩) (Nat.le_refl _) u3)
      have p0 := (unhide YA).cv
      have pl := (unhide YA).lt
      have r0 := (unhide XA).cv
      have rl := (unhide XA).lt
      have rf := (unhide XA).fz
      clear XA YA KA UA
      go_wp2_with fail
      refine bodyPost_ret (v := outflowV ⟨lm, lm, t, en⟩) (by simp [results, Try.results10, go_sem, r0]) rfl ?_
      exact ⟨⟨lm, lm, t, en⟩, rfl, ht, hl0, unhide UE _ _ _ _, unhide KE _ _ _ _⟩
  · have UE := hide (fun u0 u1 u2 u3 => (Cu.setNew (unhide HU) (Cu.setNew (unhide HU) (Cu.setNew (unhide HU) (Cu.setNew (unhide HU) (unhide U7) (g := w.heap.size) (Nat.le_refl _) 0 u0) (g := w.heap.size) (Nat.le_refl _) 1 u1) (g := w.heap.size) (Nat.le_refl _) 2 u2) (g := w.heap.size) (Nat.le_refl _) 3 u3).mono (Q := P + 100) (by omega))
    have KE := hide (fun u0 u1 u2 u3 => ((((unhide K7).setNew (p := ⟨w.heap.size, 0, none⟩) (Nat.le_refl _) u0).setNew (p := ⟨w.heap.size, 1, none⟩) (Nat.le_refl _) u1).setNew (p := ⟨w.heap.size, 2, none⟩) (Nat.le_refl _) u2).setNew (p := ⟨w.heap.size, 3, none⟩) (Nat.le_refl _) u3)
    have r0 := (unhide X7).cv
    have rl := (unhide X7).lt
    have rf := (unhide X7).fz
    clear X7 Y7 K7 U7
    go_wp2_with fail
    refine bodyPost_ret (v := outflowV ⟨lm, st, t, en⟩) (by simp [results, Try.results10, go_sem, r0]) rfl ?_
    exact ⟨⟨lm, st, t, en⟩, rfl, ht, (by show (0 : Int) ≤ (st : Int); omega), unhide UE _ _ _ _, unhide KE _ _ _ _⟩
set_option maxHeartbeats 1000000 in
theorem drawNP_any (a : Option Addr) (N cap : Nat) (w : World) (hN : N ≤ 1048576) (h : Cd w a N) :
    Calls Try.prog 4 #[.slice a N cap] w fun e w' => ∃ (D : OutflowD) (m : Nat), e = .returned (.tuple #[outflowV D, .int .i64 (m : Int)]) ∧ D.f2.size ≤ 59 ∧ 0 ≤ D.f1 ∧ m < 20 ∧ Below w.heap.size w w' := by
  have hR : Below w.heap.size w (w.alloc (.cells #[.int .i64 0, .int .i64 0, .string ⟨#[]⟩, .bool false] 24)) := (Below.refl _ _).alloc (Nat.le_refl _) _
  have hX := Bx.new w [.int .i64 0, .int .i64 0, .string ⟨#[]⟩, .bool false] 24
  obtain ⟨V, hV⟩ : ∃ V, V = w.alloc (.cells #[.int .i64 0, .int .i64 0, .string ⟨#[]⟩, .bool false] 24) := ⟨_, rfl⟩
  rw [← hV] at hR hX
  have hc := cu_first cap 39 (h.below hR)
  obtain ⟨V2, hV2⟩ : ∃ V2, V2 = V.alloc (.cells #[.slice a N cap, .int .i64 0, .int .u64 0] 39) := ⟨_, rfl⟩
  rw [← hV2] at hc
  have hdr : ∀ w', Kx V.heap.size V2 w' → Below V.heap.size V w' := fun w' k => by rw [hV2] at k; exact k.draw
  have X2 : Hid (Bx V2 w.heap.size [.int .i64 0, .int .i64 0, .string ⟨#[]⟩, .bool false]) := by show Bx _ _ _; rw [hV2]; exact hX.alloc _
  have hlt := hX.lt
  obtain ⟨cb, hcb⟩ : ∃ cb, V.heap.size = cb := ⟨_, rfl⟩
  rw [hcb] at hc hlt
  have HDR : Hid (∀ w', Kx cb V2 w' → Below w.heap.size w w') := fun w' k => hR.trans ((hdr w' (by rw [hcb]; exact k)).mono hR.size)
  have HC := hide hc
  have HV := hide hV
  have HV2 := hide hV2
  have HCB := hide hcb
  clear hc hV hV2 hcb hdr hR hX h
  go_enter Try.func4, Try.ntmps4
  go_upto_region 1 with fail
  rw [← unhide HV]
  go_upto_region 2 with fail
  rw [← unhide HV2, unhide HCB]
  clear HV HV2 HCB
  go_wp2_with fail
  refine (outflow_any cb a N cap 0 V2 hN (by omega) (unhide HC)).mono ?_
  rintro e w3 ⟨D, rfl, hD, hD1, u3, k3⟩
  have X3 := hide (bxk9 (unhide X2) k3 (by omega))
  have U3 := hide u3
  have K3 := hide k3
  clear u3 k3 X2 HC
  go_wp2_with fail
  refine (pickN cb a N cap (0 + 100) 20 _ hN (by omega) (by omega) (by omega) (unhide U3)).mono ?_
  rintro e w4 ⟨m, rfl, hm, u4, k4⟩
  have X4 := hide (bxk9 (unhide X3) k4 (by omega))
  have K4 := hide ((unhide K3).trans k4)
  have BW := hide (show ∀ u0 u1 u2 u3, Below w.heap.size w ((((w4.setCell ⟨w.heap.size, 0, none⟩ u0).setCell ⟨w.heap.size, 1, none⟩ u1).setCell ⟨w.heap.size, 2, none⟩ u2).setCell ⟨w.heap.size, 3, none⟩ u3) from fun u0 u1 u2 u3 => ((((unhide HDR _ (unhide K4)).setCell (Nat.le_refl _) _).setCell (Nat.le_refl _) _).setCell (Nat.le_refl _) _).setCell (Nat.le_refl _) _)
  have r0 := (unhide X4).cv
  have rl := (unhide X4).lt
  have rf := (unhide X4).fz
  clear u4 k4 X3 U3 K3 X4 K4 HDR
  go_wp2_with fail
  refine bodyPost_ret (v := .tuple #[outflowV D, .int .i64 (m : Int)]) (by simp [results, Try.results4, go_sem, r0]) rfl ?_
  exact ⟨D, m, rfl, hD, hD1, hm, unhide BW _ _ _ _⟩
end Go.Proofs.Ytagnkelpdgpigaa.Rc
