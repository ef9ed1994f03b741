/-
  What is drawn to be carried.
-/
import Derived.Test.YtgieglpjkjncfabDoorXsh
import Derived.Test.YtgieglpjkjncfabDoorCdw
import Derived.Deep.DeepCutAuto
namespace Go.Proofs.YtgieglpjkjncfabDoor.Dr
open Go.ChangeShapes Go.WideShapes Go.ChangeAt Go.RowKit Go.Deep
open Go.Proofs.YtgieglpjkjncfabDoor.Rc (CarriedD carriedV carriedC)
set_option linter.unusedVariables false
set_option maxRecDepth 100000

theorem bxk {cb g : Nat} {w w' : World} {xs : List Value} (h : Bx w g xs) (k : Kx cb w w') (hne : g ≠ cb) : Bx w' g xs := h.kept k.size (k.block g h.lt hne)
/-- what carried() answers -/
def CaP (cb : Nat) (a : Option Addr) (N cap P : Nat) (w : World) (e : Ending) (w' : World) : Prop := ∃ D : CarriedD, e = .returned (carriedV D) ∧ D.f2.size ≤ 1300 ∧ Cu w' cb a N cap (P + 400) ∧ Kx cb w w'
set_option maxHeartbeats 4000000 in
theorem carried_any (cb : Nat) (a : Option Addr) (N cap P : Nat) (w : World) (hN : N ≤ 1048576) (hP : P ≤ 300000) (h : Cu w cb a N cap P) :
    Calls Tryd.prog 50 #[.pointer (some ⟨cb, 0, none⟩)] w (CaP cb a N cap P w) := by
  have HU := hide h
  have hcb := h.lt
  have hne0 : w.heap.size ≠ cb := by omega
  obtain ⟨V, hV⟩ : ∃ V, V = w.alloc (.cells #[.int .i64 0, .int .i64 0, .string ⟨#[]⟩] 38) := ⟨_, rfl⟩
  have U0 : Hid (Cu V cb a N cap P) := by show Cu _ _ _ _ _ _; rw [hV]; exact h.alloc _
  have K0 : Hid (Kx cb w V) := by show Kx _ _ _; rw [hV]; exact (Kx.refl _ _).alloc _
  have X0 : Hid (Bx V w.heap.size [.int .i64 0, .int .i64 0, .string ⟨#[]⟩]) := by show Bx _ _ _; rw [hV]; exact Bx.new w _ _
  have HV := hide hV
  clear hV h
  go_enter Tryd.func50, Tryd.ntmps50
  go_upto_region 1 with fail
  rw [← unhide HV]
  clear HV
  go_wp2_with fail
  refine (pick_any cb a N cap P 100 _ hN (by omega) (by omega) (by omega) (unhide U0)).mono ?_
  rintro e w1 ⟨r, rfl, hr0, hr1, u1, k1⟩
  have w4 : IntKind.i64.wrap (4 * r) = 4 * r := wraps_i64 _ (by omega) (by omega)
  have X1 := hide (bxk (unhide X0) k1 hne0)
  have K1 := hide ((unhide K0).trans k1)
  have hne : w1.heap.size ≠ cb := by have := u1.lt; omega
  have HX := hide (lit_cells w1 [0, 0, 0, 2, 300] 3 (fun x => True) (fun _ _ => trivial))
  have UA := hide (u1.alloc (.cells #[.int .i64 0, .int .i64 0, .int .i64 0, .int .i64 2, .int .i64 300] 3))
  have KA := hide ((unhide K1).alloc (.cells #[.int .i64 0, .int .i64 0, .int .i64 0, .int .i64 2, .int .i64 300] 3))
  have XA := hide ((unhide X1).alloc (.cells #[.int .i64 0, .int .i64 0, .int .i64 0, .int .i64 2, .int .i64 300] 3))
  clear u1 k1 X0 K0 U0 X1 K1
  go_wp2_with fail
  refine (among_any cb a N cap (P + 2) w1.heap.size 5 5 (fun x => True) _ hN (by omega) (by omega) (by omega) (by simp) hne (unhide HX) (unhide UA)).mono ?_
  rintro e w2 ⟨cx, rfl, _, u2, k2⟩
  have X2 := hide (bxk (unhide XA) k2 hne0)
  have K2 := hide ((unhide KA).trans k2)
  have U2 := hide (u2.mono (Q := P + 10) (by omega))
  clear u2 k2 UA KA XA HX hne
  go_wp2_with fail
  refine (short_any cb a N cap (P + 10) _ hN (by omega) (unhide U2)).mono ?_
  rintro e w3 ⟨tx, rfl, htx, u3, k3⟩
  have X3 := hide (bxk (unhide X2) k3 hne0)
  have K3 := hide ((unhide K2).trans k3)
  have szK := (unhide K3).size
  have hgx := (unhide X3).lt
  obtain ⟨V4, hV4⟩ : ∃ V4, V4 = w3.alloc (.cells #[.int .i64 (4 * r), .int .i64 cx, .string tx] 38) := ⟨_, rfl⟩
  have U4 : Hid (Cu V4 cb a N cap (P + 320)) := by show Cu _ _ _ _ _ _; rw [hV4]; exact (u3.alloc _).mono (by omega)
  have K4 : Hid (Kx cb w V4) := by show Kx _ _ _; rw [hV4]; exact (unhide K3).alloc _
  have X4 : Hid (Bx V4 w.heap.size [.int .i64 0, .int .i64 0, .string ⟨#[]⟩]) := by show Bx _ _ _; rw [hV4]; exact (unhide X3).alloc _
  have Y4 : Hid (Bx V4 w3.heap.size [.int .i64 (4 * r), .int .i64 cx, .string tx]) := by show Bx _ _ _; rw [hV4]; exact Bx.new w3 _ _
  have HV4 := hide hV4
  have hne3 : w3.heap.size ≠ cb := by have := u3.lt; omega
  clear u3 k3 X2 K2 U2 X3 K3 hV4 w4
  generalize 4 * r = st at *
  obtain ⟨g, hg⟩ : ∃ g, w3.heap.size = g := ⟨_, rfl⟩
  rw [hg] at Y4 hne3 szK hgx
  have HG := hide hg
  clear hg
  go_upto_region 2 with fail
  rw [← unhide HV4, unhide HG]
  clear HV4 HG
  go_wp2_with fail
  refine (pick_any cb a N cap (P + 320) 20 _ hN (by omega) (by omega) (by omega) (unhide U4)).mono ?_
  rintro e w5 ⟨q, rfl, hq0, hq1, u5, k5⟩
  have X5 := hide (bxk (unhide X4) k5 hne0)
  have Y5 := hide (bxk (unhide Y4) k5 hne3)
  have K5 := hide ((unhide K4).trans k5)
  have U5 := hide u5
  clear u5 k5 X4 Y4 K4 U4
  by_cases h0 : q = 0
  · subst h0
    have hne5 : w5.heap.size ≠ cb := by have := (unhide U5).lt; omega
    have HX := hide (lit_cells w5 [-4, 2, 4611686018427387900, 4611686018427387903] 3 (fun x => True) (fun _ _ => trivial))
    have UA := hide ((unhide U5).alloc (.cells #[.int .i64 (-4), .int .i64 2, .int .i64 4611686018427387900, .int .i64 4611686018427387903] 3))
    have KA := hide ((unhide K5).alloc (.cells #[.int .i64 (-4), .int .i64 2, .int .i64 4611686018427387900, .int .i64 4611686018427387903] 3))
    have XA := hide ((unhide X5).alloc (.cells #[.int .i64 (-4), .int .i64 2, .int .i64 4611686018427387900, .int .i64 4611686018427387903] 3))
    have YA := hide ((unhide Y5).alloc (.cells #[.int .i64 (-4), .int .i64 2, .int .i64 4611686018427387900, .int .i64 4611686018427387903] 3))
    clear X5 Y5 K5 U5
    go_wp2_with fail
    refine (among_any cb a N cap (P + 320 + 2) w5.heap.size 4 4 (fun x => True) _ hN (by omega) (by omega) (by omega) (by simp) hne5 (unhide HX) (unhide UA)).mono ?_
    rintro e w6 ⟨s6, rfl, _, u6, k6⟩
    have X6 := hide (bxk (unhide XA) k6 hne0)
    have Y6 := hide (bxk (unhide YA) k6 hne3)
    have K6 := hide ((unhide KA).trans k6)
    have X7 := hide (fun u => (unhide X6).other (c := g) (i := 0) (u := u) (by omega))
    have Y7 := hide (fun u => (unhide Y6).set (i := 0) (u := u) (by simp))
    have K7 := hide (fun u => (unhide K6).setNew (p := ⟨g, 0, none⟩) szK u)
    have U7 := hide (fun u => Cu.setNew (unhide HU) u6 (g := g) szK 0 u)
    have y0 := (unhide Y6).cv
    have yl := (unhide Y6).lt
    have yf := (unhide Y6).fz
    clear u6 k6 X6 K6 UA KA XA YA HX hne5
    go_upto_region 7 with fail
    obtain ⟨W8, hW8⟩ : ∃ W8, W8 = w6.setCell ⟨g, 0, none⟩ (.int .i64 s6) := ⟨_, rfl⟩
    have X8 : Hid (Bx W8 w.heap.size [.int .i64 0, .int .i64 0, .string ⟨#[]⟩]) := by show Bx _ _ _; rw [hW8]; exact unhide X7 _
    have Y8 : Hid (Bx W8 g [.int .i64 s6, .int .i64 cx, .string tx]) := by show Bx _ _ _; rw [hW8]; exact unhide Y7 _
    have K8 : Hid (Kx cb w W8) := by show Kx _ _ _; rw [hW8]; exact unhide K7 _
    have U8 : Hid (Cu W8 cb a N cap (P + 320 + 2 + 2)) := by show Cu _ _ _ _ _ _; rw [hW8]; exact unhide U7 _
    rw [← hW8]
    clear hW8 X7 Y7 K7 U7 y0 yl yf Y6
    have p0 := (unhide Y8).cv
    have pl := (unhide Y8).lt
    have r0 := (unhide X8).cv
    have rl := (unhide X8).lt
    have rf := (unhide X8).fz
    have UE := hide (fun u0 u1 u2 => (Cu.setNew (unhide HU) (Cu.setNew (unhide HU) (Cu.setNew (unhide HU) (unhide U8) (g := w.heap.size) (Nat.le_refl _) 0 u0) (g := w.heap.size) (Nat.le_refl _) 1 u1) (g := w.heap.size) (Nat.le_refl _) 2 u2).mono (Q := P + 400) (by omega))
    have KE := hide (fun u0 u1 u2 => (((unhide K8).setNew (p := ⟨w.heap.size, 0, none⟩) (Nat.le_refl _) u0).setNew (p := ⟨w.heap.size, 1, none⟩) (Nat.le_refl _) u1).setNew (p := ⟨w.heap.size, 2, none⟩) (Nat.le_refl _) u2)
    clear U8 K8 X8 Y8
    go_wp2_with fail
    refine bodyPost_ret (v := carriedV ⟨s6, cx, tx⟩) (by simp [results, Tryd.results50, go_sem, r0]) rfl ?_
    exact ⟨⟨s6, cx, tx⟩, rfl, by show ByteArray.size tx ≤ 1300; omega, unhide UE _ _ _, unhide KE _ _ _⟩
  by_cases h1 : q = 1
  · subst h1
    go_wp2_with fail
    refine (pick_any cb a N cap (P + 320 + 2) 2 _ hN (by omega) (by omega) (by omega) (unhide U5)).mono ?_
    rintro e w6 ⟨x, rfl, hx0, hx1, u6, k6⟩
    obtain ⟨n, hn⟩ : ∃ n : Nat, 1200 + x = (n : Int) := ⟨(1200 + x).toNat, by omega⟩
    have hn1 : n ≤ 1201 := by omega
    have wn : IntKind.i64.wrap (1200 + x) = (n : Int) := by rw [wraps_i64 _ (by omega) (by omega)]; exact hn
    have X6 := hide (bxk (unhide X5) k6 hne0)
    have Y6 := hide (bxk (unhide Y5) k6 hne3)
    have K6 := hide ((unhide K5).trans k6)
    have hmk := mk_bytes n (by omega) w6
    obtain ⟨W7, hW7⟩ : ∃ W7, W7 = w6.alloc (.cells (us n fun _ => 0).toArray 5) := ⟨_, rfl⟩
    have hA7 : Ar W7 w6.heap.size 0 n (fun _ => 0) := by rw [hW7]; exact Ar.new w6 n (fun _ => 0) 5
    have hst := ar_string hA7 (fun i _ => by decide) n
    rw [← hW7] at hmk
    have X7 : Hid (Bx W7 w.heap.size [.int .i64 0, .int .i64 0, .string ⟨#[]⟩]) := by show Bx _ _ _; rw [hW7]; exact (unhide X6).alloc _
    have Y7 : Hid (Bx W7 g [.int .i64 st, .int .i64 cx, .string tx]) := by show Bx _ _ _; rw [hW7]; exact (unhide Y6).alloc _
    have K7 : Hid (Kx cb w W7) := by show Kx _ _ _; rw [hW7]; exact (unhide K6).alloc _
    have U7 : Hid (Cu W7 cb a N cap (P + 320 + 2 + 2)) := by show Cu _ _ _ _ _ _; rw [hW7]; exact u6.alloc _
    have hsz := bq_le n 1201 (fun _ => 0) hn1
    generalize bq n (fun _ => 0) = bt at *
    have X9 := hide (fun u => (unhide X7).other (c := g) (i := 2) (u := u) (by omega))
    have Y9 := hide (fun u => (unhide Y7).set (i := 2) (u := u) (by simp))
    have K9 := hide (fun u => (unhide K7).setNew (p := ⟨g, 2, none⟩) szK u)
    have U9 := hide (fun u => Cu.setNew (unhide HU) (unhide U7) (g := g) szK 2 u)
    have y0 := (unhide Y7).cv
    have yl := (unhide Y7).lt
    have yf := (unhide Y7).fz
    clear u6 k6 X6 Y6 K6 X5 Y5 K5 U5 hA7 hW7 hn X7 K7 U7
    go_upto_region 7 with fail
    obtain ⟨W8, hW8⟩ : ∃ W8, W8 = W7.setCell ⟨g, 2, none⟩ (.string bt) := ⟨_, rfl⟩
    have X8 : Hid (Bx W8 w.heap.size [.int .i64 0, .int .i64 0, .string ⟨#[]⟩]) := by show Bx _ _ _; rw [hW8]; exact unhide X9 _
    have Y8 : Hid (Bx W8 g [.int .i64 st, .int .i64 cx, .string bt]) := by show Bx _ _ _; rw [hW8]; exact unhide Y9 _
    have K8 : Hid (Kx cb w W8) := by show Kx _ _ _; rw [hW8]; exact unhide K9 _
    have U8 : Hid (Cu W8 cb a N cap (P + 320 + 2 + 2)) := by show Cu _ _ _ _ _ _; rw [hW8]; exact unhide U9 _
    rw [← hW8]
    clear hW8 X9 Y9 K9 U9 y0 yl yf Y7 hst hmk wn
    have p0 := (unhide Y8).cv
    have pl := (unhide Y8).lt
    have r0 := (unhide X8).cv
    have rl := (unhide X8).lt
    have rf := (unhide X8).fz
    have UE := hide (fun u0 u1 u2 => (Cu.setNew (unhide HU) (Cu.setNew (unhide HU) (Cu.setNew (unhide HU) (unhide U8) (g := w.heap.size) (Nat.le_refl _) 0 u0) (g := w.heap.size) (Nat.le_refl _) 1 u1) (g := w.heap.size) (Nat.le_refl _) 2 u2).mono (Q := P + 400) (by omega))
    have KE := hide (fun u0 u1 u2 => (((unhide K8).setNew (p := ⟨w.heap.size, 0, none⟩) (Nat.le_refl _) u0).setNew (p := ⟨w.heap.size, 1, none⟩) (Nat.le_refl _) u1).setNew (p := ⟨w.heap.size, 2, none⟩) (Nat.le_refl _) u2)
    clear U8 K8 X8 Y8
    go_wp2_with fail
    refine bodyPost_ret (v := carriedV ⟨st, cx, bt⟩) (by simp [results, Tryd.results50, go_sem, r0]) rfl ?_
    exact ⟨⟨st, cx, bt⟩, rfl, by show ByteArray.size bt ≤ 1300; omega, unhide UE _ _ _, unhide KE _ _ _⟩
  have b0 : (q == 0) = false := beq_eq_false_iff_ne.2 h0
  have b1 : (q == 1) = false := beq_eq_false_iff_ne.2 h1
  have p0 := (unhide Y5).cv
  have pl := (unhide Y5).lt
  have r0 := (unhide X5).cv
  have rl := (unhide X5).lt
  have rf := (unhide X5).fz
  have UE := hide (fun u0 u1 u2 => (Cu.setNew (unhide HU) (Cu.setNew (unhide HU) (Cu.setNew (unhide HU) (unhide U5) (g := w.heap.size) (Nat.le_refl _) 0 u0) (g := w.heap.size) (Nat.le_refl _) 1 u1) (g := w.heap.size) (Nat.le_refl _) 2 u2).mono (Q := P + 400) (by omega))
  have KE := hide (fun u0 u1 u2 => (((unhide K5).setNew (p := ⟨w.heap.size, 0, none⟩) (Nat.le_refl _) u0).setNew (p := ⟨w.heap.size, 1, none⟩) (Nat.le_refl _) u1).setNew (p := ⟨w.heap.size, 2, none⟩) (Nat.le_refl _) u2)
  clear U5 K5 X5 Y5
  go_wp2_with fail
  refine bodyPost_ret (v := carriedV ⟨st, cx, tx⟩) (by simp [results, Tryd.results50, go_sem, r0]) rfl ?_
  exact ⟨⟨st, cx, tx⟩, rfl, by show ByteArray.size tx ≤ 1300; omega, unhide UE _ _ _, unhide KE _ _ _⟩
set_option maxHeartbeats 1000000 in
theorem drawGK_any (a : Option Addr) (N cap : Nat) (w : World) (hN : N ≤ 1048576) (h : Cd w a N) :
    Calls Tryd.prog 30 #[.slice a N cap] w fun e w' => ∃ D : CarriedD, e = .returned (carriedV D) ∧ D.f2.size ≤ 1300 ∧ Below w.heap.size w w' := by
  have hR : Below w.heap.size w (w.alloc (.cells #[.int .i64 0, .int .i64 0, .string ⟨#[]⟩] 38)) := (Below.refl _ _).alloc (Nat.le_refl _) _
  have hX := Bx.new w [.int .i64 0, .int .i64 0, .string ⟨#[]⟩] 38
  obtain ⟨V, hV⟩ : ∃ V, V = w.alloc (.cells #[.int .i64 0, .int .i64 0, .string ⟨#[]⟩] 38) := ⟨_, rfl⟩
  rw [← hV] at hR hX
  have hc := cu_first cap 47 (h.below hR)
  obtain ⟨V2, hV2⟩ : ∃ V2, V2 = V.alloc (.cells #[.slice a N cap, .int .i64 0, .int .u64 0] 47) := ⟨_, rfl⟩
  rw [← hV2] at hc
  have hdr : ∀ w', Kx V.heap.size V2 w' → Below V.heap.size V w' := fun w' k => by rw [hV2] at k; exact k.draw
  have X2 : Hid (Bx V2 w.heap.size [.int .i64 0, .int .i64 0, .string ⟨#[]⟩]) := by show Bx _ _ _; rw [hV2]; exact hX.alloc _
  have hlt := hX.lt
  obtain ⟨cb, hcb⟩ : ∃ cb, V.heap.size = cb := ⟨_, rfl⟩
  rw [hcb] at hc hlt
  have HDR : Hid (∀ w', Kx cb V2 w' → Below w.heap.size w w') := fun w' k => hR.trans ((hdr w' (by rw [hcb]; exact k)).mono hR.size)
  have HC := hide hc
  have HV := hide hV
  have HV2 := hide hV2
  have HCB := hide hcb
  clear hc hV hV2 hcb hdr hR hX h
  go_enter Tryd.func30, Tryd.ntmps30
  go_upto_region 1 with fail
  rw [← unhide HV]
  go_upto_region 2 with fail
  rw [← unhide HV2, unhide HCB]
  clear HV HV2 HCB
  go_wp2_with fail
  refine (carried_any cb a N cap 0 V2 hN (by omega) (unhide HC)).mono ?_
  rintro e w3 ⟨D, rfl, hD, u3, k3⟩
  have X3 := hide (bxk (unhide X2) k3 (by omega))
  have BW := hide (show ∀ u0 u1 u2, Below w.heap.size w (((w3.setCell ⟨w.heap.size, 0, none⟩ u0).setCell ⟨w.heap.size, 1, none⟩ u1).setCell ⟨w.heap.size, 2, none⟩ u2) from fun u0 u1 u2 => (((unhide HDR _ k3).setCell (Nat.le_refl _) _).setCell (Nat.le_refl _) _).setCell (Nat.le_refl _) _)
  have r0 := (unhide X3).cv
  have rl := (unhide X3).lt
  have rf := (unhide X3).fz
  clear u3 k3 X2 X3 HC HDR
  go_wp2_with fail
  refine bodyPost_ret (v := carriedV D) (by simp [results, Tryd.results30, go_sem, r0]) rfl ?_
  exact ⟨D, rfl, hD, unhide BW _ _ _⟩
theorem drawCY_any (a : Option Addr) (N cap : Nat) (w : World) (hN : N ≤ 1048576) (h : Cd w a N) :
    Calls Tryd.prog 13 #[.slice a N cap] w fun e w' => ∃ D : CarriedD, e = .returned (carriedV D) ∧ D.f2.size ≤ 1300 ∧ Below w.heap.size w w' := by
  have hR : Below w.heap.size w (w.alloc (.cells #[.int .i64 0, .int .i64 0, .string ⟨#[]⟩] 38)) := (Below.refl _ _).alloc (Nat.le_refl _) _
  have hX := Bx.new w [.int .i64 0, .int .i64 0, .string ⟨#[]⟩] 38
  obtain ⟨V, hV⟩ : ∃ V, V = w.alloc (.cells #[.int .i64 0, .int .i64 0, .string ⟨#[]⟩] 38) := ⟨_, rfl⟩
  rw [← hV] at hR hX
  have H := hide (drawGK_any a N cap V hN (h.below hR))
  have HV := hide hV
  have HR := hide hR
  have HX := hide hX
  clear hV hR hX h
  go_enter Tryd.func13, Tryd.ntmps13
  go_upto_region 1 with fail
  rw [← unhide HV]
  clear HV
  go_wp2_with fail
  refine (unhide H).mono ?_
  rintro e w3 ⟨D, rfl, hD, b3⟩
  have X3 := hide ((unhide HX).below b3)
  have b4 := (unhide HR).trans (b3.mono (unhide HR).size)
  have BW := hide (show ∀ u0 u1 u2, Below w.heap.size w (((w3.setCell ⟨w.heap.size, 0, none⟩ u0).setCell ⟨w.heap.size, 1, none⟩ u1).setCell ⟨w.heap.size, 2, none⟩ u2) from fun u0 u1 u2 => ((b4.setCell (Nat.le_refl _) _).setCell (Nat.le_refl _) _).setCell (Nat.le_refl _) _)
  have r0 := (unhide X3).cv
  have rl := (unhide X3).lt
  have rf := (unhide X3).fz
  clear b3 b4 X3 HR HX
  go_wp2_with fail
  refine bodyPost_ret (v := carriedV D) (by simp [results, Tryd.results13, go_sem, r0]) rfl ?_
  exact ⟨D, rfl, hD, unhide BW _ _ _⟩
end Go.Proofs.YtgieglpjkjncfabDoor.Dr
