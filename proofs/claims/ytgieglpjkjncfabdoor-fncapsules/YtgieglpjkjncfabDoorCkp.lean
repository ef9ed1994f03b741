/-
  Rows of capsules that the model draws.
-/
import Derived.Test.YtgieglpjkjncfabDoorXsh
import Derived.Test.YtgieglpjkjncfabDoorRcCapsule
import Derived.Deep.DeepCutAuto
namespace Go.Proofs.YtgieglpjkjncfabDoor.Dr
open Go.ChangeShapes Go.WideShapes Go.ChangeAt Go.RowKit Go.Deep
open Go.Proofs.YtgieglpjkjncfabDoor.Rc (CapsuleD capsuleK capsuleV gt Rd Ro Ro.nil Kq pushCapsule gt_mem)
set_option linter.unusedVariables false
set_option maxRecDepth 100000

theorem bxk {cb g : Nat} {w w' : World} {xs : List Value} (h : Bx w g xs) (k : Kx cb w w') (hne : g ≠ cb) : Bx w' g xs := h.kept k.size (k.block g h.lt hne)
theorem ro_rdc {α : Type} {K : Rc.Kd α} {e : TypeId} {base : Nat} {w : World} {a : Option Addr} {n c : Nat} {L : List α} (h : Ro K e base w (.slice a n c) L) : Rd K w a L := by
  obtain ⟨a', c', hv, _, ri⟩ := h.form
  injection hv with h1 h2 h3
  subst h1
  exact ri.rd
theorem kqx {cb : Nat} {w w' : World} (h : Kx cb w w') : Kq (fun q => q = cb) w w' := ⟨h.os, h.tape, h.output, h.size, fun q hq hn => h.block q hq hn⟩
theorem cu_low {w0 W W' : World} {cb : Nat} {a : Option Addr} {N cap P P0 : Nat} (h0 : Cu w0 cb a N cap P0) (h : Cu W cb a N cap P) (hb : Below w0.heap.size W W') : Cu W' cb a N cap P := by
  have hl := h0.lt
  have hc : ∀ q : Nat, W'.cell? ⟨cb, q, none⟩ = W.cell? ⟨cb, q, none⟩ := fun q => World.cell?_of_block (a := ⟨cb, q, none⟩) (hb.block cb (by omega))
  refine ⟨Nat.lt_of_lt_of_le h.lt hb.size, (hc 0).trans h.c0, ?_, ?_, fun q => ?_, ?_⟩
  · obtain ⟨p, h1, h2⟩ := h.c1
    exact ⟨p, h1, (hc 1).trans h2⟩
  · obtain ⟨s, h1, h2, h3⟩ := h.c2
    exact ⟨s, h1, h2, (hc 2).trans h3⟩
  · exact (World.frozen?_of_block (w := W) (a := ⟨cb, q, none⟩) (hb.block cb (by omega))).trans (h.fz q)
  · rcases h.cd with e | ⟨b, off, e, hl1, hn1, hx⟩
    · exact Or.inl e
    · rcases h0.cd with e0 | ⟨b0, off0, e0, hl0, _, _⟩
      · exact Or.inl e0
      · have hbb : b = b0 := by
          rw [e] at e0
          simp at e0
          exact e0.1
        refine Or.inr ⟨b, off, e, Nat.lt_of_lt_of_le hl1 hb.size, hn1, fun i hi => ?_⟩
        obtain ⟨x, h1, h2⟩ := hx i hi
        exact ⟨x, h1, (World.cell?_of_block (a := ⟨b, off + i, none⟩) (hb.block b (by omega))).trans h2⟩
theorem kx_low {cb : Nat} {w W W' : World} (h : Kx cb w W) (hb : Below w.heap.size W W') : Kx cb w W' :=
  ⟨hb.os.trans h.os, hb.tape.trans h.tape, hb.output.trans h.output, Nat.le_trans h.size hb.size, fun k hk hne => (hb.block k hk).trans (h.block k hk hne)⟩
set_option maxHeartbeats 4000000 in
theorem capsules_any (cb : Nat) (a : Option Addr) (N cap P : Nat) (w : World) (hN : N ≤ 1048576) (hP : P ≤ 100000) (h : Cu w cb a N cap P) :
    Calls Tryd.prog 17 #[.pointer (some ⟨cb, 0, none⟩)] w fun e w' => ∃ (L : List CapsuleD) (a' : Option Addr) (c' : Nat), e = .returned (.slice a' L.length c') ∧ L.length ≤ 31 ∧ (∀ D ∈ L, D.f1.size ≤ 201) ∧ Ro capsuleK 30 w.heap.size w' (.slice a' L.length c') L ∧ Cu w' cb a N cap (P + 10000) ∧ Kx cb w w' := by
  have HU := hide h
  have hcl := h.lt
  clear h
  go_enter Tryd.func17, Tryd.ntmps17
  go_wp2_with fail
  refine (pick_any cb a N cap P 5 _ hN (by omega) (by omega) (by omega) (unhide HU)).mono ?_
  rintro e w1 ⟨r, rfl, hr0, hr1, u1, k1⟩
  have U1 := hide u1
  have K1 := hide k1
  clear u1 k1
  go_wp2_with fail
  refine (one_any cb a N cap (P + 2) 30 _ hN (by omega) (by omega) (by omega) (unhide U1)).mono ?_
  rintro e w2 ⟨rb, rfl, u2, k2⟩
  have U2 := hide u2
  have K2 := hide ((unhide K1).trans k2)
  clear u2 k2 U1 K1
  cases rb with
  | false =>
    obtain ⟨n, rfl⟩ := Int.eq_ofNat_of_zero_le hr0
    have hn : n ≤ 31 := by omega
    have O0 : Hid (Ro capsuleK 30 w.heap.size w2 (.slice none 0 0) ([] : List CapsuleD)) := Ro.nil _ _ _ _
    have V0 := hide ((unhide U2).mono (Q := P + 10 + 320 * (31 - n)) (by omega))
    have J0 := hide (unhide K2)
    clear U2 K2
    go_wp2_with fail
    go_loopw [3, 4] (fun v3 v4 wr => ∃ (m : Nat) (Q : List CapsuleD), v4 = .int .i64 m ∧ Q.length + m ≤ 31 ∧ Hid (∀ D ∈ Q, D.f1.size ≤ 201) ∧ Hid (Ro capsuleK 30 w.heap.size wr v3 Q) ∧ Hid (Cu wr cb a N cap (P + 10 + 320 * (31 - m))) ∧ Hid (Kx cb w wr)) (fun _ v4 _ => (intOf v4).toNat)
    case atStart => exact ⟨n, [], rfl, by simp; omega, (fun D hD => nomatch hD), O0, V0, J0⟩
    case round =>
      obtain ⟨m', Q, rfl, hQ, HT, HO, HV, HJ⟩ := hrel
      clear O0 V0 J0
      obtain ⟨ra, rc, rfl⟩ := (unhide HO).opens
      rcases Nat.eq_zero_or_pos m' with rfl | hm
      · go_wp2
        go_ret
        exact ⟨Q, ra, rc, rfl, by omega, unhide HT, unhide HO, (unhide HV).mono (by omega), unhide HJ⟩
      · obtain ⟨m, rfl⟩ : ∃ m, m' = m + 1 := ⟨m' - 1, by omega⟩
        have hI : (0 : Int) < ((m + 1 : Nat) : Int) := by omega
        have HVq := hide ((unhide HV).mono (Q := P + 10 + 320 * (30 - m)) (by omega))
        clear HV
        obtain ⟨B, hB⟩ : ∃ B, P + 10 + 320 * (30 - m) = B := ⟨_, rfl⟩
        have hB1 : B ≤ 310000 := by omega
        have hB2 : B + 310 ≤ P + 10 + 320 * (31 - m) := by omega
        rw [hB] at HVq
        clear hB
        have hner : wr.heap.size ≠ cb := by have := (unhide HVq).lt; omega
        have HX := hide (lit_cells wr [0, 0, 1, 2, 41, 70000] 3 (fun x => True) (fun _ _ => trivial))
        have UA := hide ((unhide HVq).alloc (.cells #[.int .i64 0, .int .i64 0, .int .i64 1, .int .i64 2, .int .i64 41, .int .i64 70000] 3))
        have KA := hide ((unhide HJ).alloc (.cells #[.int .i64 0, .int .i64 0, .int .i64 1, .int .i64 2, .int .i64 41, .int .i64 70000] 3))
        have OA := hide ((unhide HO).below ((Below.refl _ _).alloc (Nat.le_refl _) (.cells #[.int .i64 0, .int .i64 0, .int .i64 1, .int .i64 2, .int .i64 41, .int .i64 70000] 3)))
        clear HVq HJ HO
        go_wp2_with fail
        refine (among_any cb a N cap B wr.heap.size 6 6 (fun x => True) _ hN (by omega) (by omega) (by omega) (by simp) hner (unhide HX) (unhide UA)).mono ?_
        rintro e w4 ⟨kx, rfl, _, u4, k4⟩
        have U4 := hide u4
        have O4 := hide ((unhide OA).kq (kqx k4) (fun q hq => by omega))
        have K4 := hide ((unhide KA).trans k4)
        clear u4 k4 UA KA OA HX
        go_wp2_with fail
        refine (short_any cb a N cap (B + 2) _ hN (by omega) (unhide U4)).mono ?_
        rintro e w5 ⟨tx, rfl, htx, u5, k5⟩
        have O5 := hide ((unhide O4).kq (kqx k5) (fun q hq => by omega))
        have K5 := hide ((unhide K4).trans k5)
        have sz5 := (unhide K5).size
        have hne5 : w5.heap.size ≠ cb := by have := u5.lt; omega
        obtain ⟨V6, hV6⟩ : ∃ V, V = w5.alloc (.cells #[.int .i64 kx, .string tx] 30) := ⟨_, rfl⟩
        have U6 : Hid (Cu V6 cb a N cap (B + 302)) := by show Cu _ _ _ _ _ _; rw [hV6]; exact (u5.alloc _).mono (by omega)
        have K6 : Hid (Kx cb w V6) := by show Kx _ _ _; rw [hV6]; exact (unhide K5).alloc _
        have L6 : Hid (Kx cb w5 V6) := by show Kx _ _ _; rw [hV6]; exact (Kx.refl _ _).alloc _
        have X6 : Hid (Bx V6 w5.heap.size [.int .i64 kx, .string tx]) := by show Bx _ _ _; rw [hV6]; exact Bx.new w5 _ _
        have HV6 := hide hV6
        clear u5 k5 U4 K4 O4 K5 hV6
        obtain ⟨g, hg⟩ : ∃ g, w5.heap.size = g := ⟨_, rfl⟩
        have hg5 : w5.heap.size ≤ g := by omega
        rw [hg] at X6 hne5 sz5
        have HG := hide hg
        clear hg
        go_upto_region 8 with fail
        rw [← unhide HV6, unhide HG]
        clear HV6 HG
        go_wp2_with fail
        refine (pick_any cb a N cap (B + 302) 30 _ hN (by omega) (by omega) (by omega) (unhide U6)).mono ?_
        rintro e w7 ⟨q, rfl, hq0, hq1, u7, k7⟩
        have U7 := hide u7
        have X7 := hide (bxk (unhide X6) k7 hne5)
        have K7 := hide ((unhide K6).trans k7)
        have L7 := hide ((unhide L6).trans k7)
        clear u7 k7 U6 X6 K6 L6
        by_cases h0 : q = 0
        · subst h0
          go_wp2_with fail
          refine (pick_any cb a N cap (B + 302 + 2) 2 _ hN (by omega) (by omega) (by omega) (unhide U7)).mono ?_
          rintro e w8 ⟨x, rfl, hx0, hx1, u8, k8⟩
          obtain ⟨z, hn⟩ : ∃ z : Nat, 200 + x = (z : Int) := ⟨(200 + x).toNat, by omega⟩
          have hn1 : z ≤ 201 := by omega
          have wn : IntKind.i64.wrap (200 + x) = (z : Int) := by rw [wraps_i64 _ (by omega) (by omega)]; exact hn
          have X8 := hide (bxk (unhide X7) k8 hne5)
          have K8 := hide ((unhide K7).trans k8)
          have L8 := hide ((unhide L7).trans k8)
          have hmk := mk_bytes z (by omega) w8
          obtain ⟨W9, hW9⟩ : ∃ W9, W9 = w8.alloc (.cells (us z fun _ => 0).toArray 5) := ⟨_, rfl⟩
          have hA9 : Ar W9 w8.heap.size 0 z (fun _ => 0) := by rw [hW9]; exact Ar.new w8 z (fun _ => 0) 5
          have hst := ar_string hA9 (fun i _ => by decide) z
          rw [← hW9] at hmk
          have X9 : Hid (Bx W9 g [.int .i64 kx, .string tx]) := by show Bx _ _ _; rw [hW9]; exact (unhide X8).alloc _
          have K9 : Hid (Kx cb w W9) := by show Kx _ _ _; rw [hW9]; exact (unhide K8).alloc _
          have L9 : Hid (Kx cb w5 W9) := by show Kx _ _ _; rw [hW9]; exact (unhide L8).alloc _
          have U9 : Hid (Cu W9 cb a N cap (B + 302 + 2 + 2)) := by show Cu _ _ _ _ _ _; rw [hW9]; exact u8.alloc _
          have hsz := bq_le z 201 (fun _ => 0) hn1
          generalize bq z (fun _ => 0) = bt at *
          have XA := hide (fun u => (unhide X9).set (i := 1) (u := u) (by simp))
          have KA := hide (fun u => (unhide K9).setNew (p := ⟨g, 1, none⟩) sz5 u)
          have LA := hide (fun u => (unhide L9).setNew (p := ⟨g, 1, none⟩) hg5 u)
          have UA := hide (fun u => Cu.setNew (unhide HU) (unhide U9) (g := g) sz5 1 u)
          have y0 := (unhide X9).cv
          have yl := (unhide X9).lt
          have yf := (unhide X9).fz
          clear u8 k8 X8 K8 L8 X7 K7 L7 U7 hA9 hW9 hn K9 L9 U9
          go_upto_region 13 with fail
          obtain ⟨WB, hWB⟩ : ∃ WB, WB = W9.setCell ⟨g, 1, none⟩ (.string bt) := ⟨_, rfl⟩
          have XB : Hid (Bx WB g [.int .i64 kx, .string bt]) := by show Bx _ _ _; rw [hWB]; exact unhide XA _
          have KB : Hid (Kx cb w WB) := by show Kx _ _ _; rw [hWB]; exact unhide KA _
          have LB : Hid (Kx cb w5 WB) := by show Kx _ _ _; rw [hWB]; exact unhide LA _
          have UB : Hid (Cu WB cb a N cap (B + 302 + 2 + 2)) := by show Cu _ _ _ _ _ _; rw [hWB]; exact unhide UA _
          rw [← hWB]
          clear hWB XA KA LA UA y0 yl yf X9 hst hmk wn
          have O8 := hide ((unhide O5).kq (kqx (unhide LB)) (fun q hq => by omega))
          have szK8 := (unhide KB).size
          obtain ⟨v9, w9, run9, o9, b9, _⟩ := pushCapsule WB w.heap.size (.slice ra Q.length rc) Q ⟨kx, bt⟩ (unhide O8) (by omega) szK8
          have O9 := hide o9
          have RUN9 := hide run9
          have U9 := hide ((cu_low (unhide HU) (unhide UB) b9).mono (Q := P + 10 + 320 * (31 - m)) (by omega))
          have K9 := hide (kx_low (unhide KB) b9)
          have T9 : Hid (∀ D ∈ Q ++ [(⟨kx, bt⟩ : CapsuleD)], D.f1.size ≤ 201) := by
            intro E hE
            rcases List.mem_append.1 hE with hE | hE
            · exact unhide HT E hE
            · rw [List.mem_singleton.1 hE]
              show ByteArray.size bt ≤ 201
              omega
          have y0 := (unhide XB).cv
          have yl := (unhide XB).lt
          clear run9 o9 b9 O8 O5 UB KB XB LB
          go_wp2_with (at_builtin; refine wpl_app rfl _ _ 23 rfl _ _ _ _ rfl rfl (unhide RUN9) ?_)
          exact ⟨⟨m, Q ++ [⟨kx, bt⟩], by go_num, by simp; omega, T9, O9, U9, K9⟩, by simp [intOf]⟩
        by_cases h1 : q = 1
        · subst h1
          have hne7 : w7.heap.size ≠ cb := by have := (unhide U7).lt; omega
          have HX := hide (lit_cells w7 [-1, 4611686018427387903, 4611686018427387904] 3 (fun x => True) (fun _ _ => trivial))
          have UA := hide ((unhide U7).alloc (.cells #[.int .i64 (-1), .int .i64 4611686018427387903, .int .i64 4611686018427387904] 3))
          have KA := hide ((unhide K7).alloc (.cells #[.int .i64 (-1), .int .i64 4611686018427387903, .int .i64 4611686018427387904] 3))
          have LA := hide ((unhide L7).alloc (.cells #[.int .i64 (-1), .int .i64 4611686018427387903, .int .i64 4611686018427387904] 3))
          have XA := hide ((unhide X7).alloc (.cells #[.int .i64 (-1), .int .i64 4611686018427387903, .int .i64 4611686018427387904] 3))
          clear X7 K7 L7 U7
          go_wp2_with fail
          refine (among_any cb a N cap (B + 302 + 2) w7.heap.size 3 3 (fun x => True) _ hN (by omega) (by omega) (by omega) (by simp) hne7 (unhide HX) (unhide UA)).mono ?_
          rintro e w8 ⟨s8, rfl, _, u8, k8⟩
          have X8 := hide (bxk (unhide XA) k8 hne5)
          have K8 := hide ((unhide KA).trans k8)
          have L8 := hide ((unhide LA).trans k8)
          have X9 := hide (fun u => (unhide X8).set (i := 0) (u := u) (by simp))
          have K9 := hide (fun u => (unhide K8).setNew (p := ⟨g, 0, none⟩) sz5 u)
          have L9 := hide (fun u => (unhide L8).setNew (p := ⟨g, 0, none⟩) hg5 u)
          have U9 := hide (fun u => Cu.setNew (unhide HU) u8 (g := g) sz5 0 u)
          have y0 := (unhide X8).cv
          have yl := (unhide X8).lt
          have yf := (unhide X8).fz
          clear u8 k8 K8 L8 UA KA LA XA HX hne7
          go_upto_region 13 with fail
          obtain ⟨WB, hWB⟩ : ∃ WB, WB = w8.setCell ⟨g, 0, none⟩ (.int .i64 s8) := ⟨_, rfl⟩
          have XB : Hid (Bx WB g [.int .i64 s8, .string tx]) := by show Bx _ _ _; rw [hWB]; exact unhide X9 _
          have KB : Hid (Kx cb w WB) := by show Kx _ _ _; rw [hWB]; exact unhide K9 _
          have LB : Hid (Kx cb w5 WB) := by show Kx _ _ _; rw [hWB]; exact unhide L9 _
          have UB : Hid (Cu WB cb a N cap (B + 302 + 2 + 2)) := by show Cu _ _ _ _ _ _; rw [hWB]; exact unhide U9 _
          rw [← hWB]
          clear hWB X9 K9 L9 U9 y0 yl yf X8
          have O8 := hide ((unhide O5).kq (kqx (unhide LB)) (fun q hq => by omega))
          have szK8 := (unhide KB).size
          obtain ⟨v9, w9, run9, o9, b9, _⟩ := pushCapsule WB w.heap.size (.slice ra Q.length rc) Q ⟨s8, tx⟩ (unhide O8) (by omega) szK8
          have O9 := hide o9
          have RUN9 := hide run9
          have U9 := hide ((cu_low (unhide HU) (unhide UB) b9).mono (Q := P + 10 + 320 * (31 - m)) (by omega))
          have K9 := hide (kx_low (unhide KB) b9)
          have T9 : Hid (∀ D ∈ Q ++ [(⟨s8, tx⟩ : CapsuleD)], D.f1.size ≤ 201) := by
            intro E hE
            rcases List.mem_append.1 hE with hE | hE
            · exact unhide HT E hE
            · rw [List.mem_singleton.1 hE]
              show ByteArray.size tx ≤ 201
              omega
          have y0 := (unhide XB).cv
          have yl := (unhide XB).lt
          clear run9 o9 b9 O8 O5 UB KB XB LB
          go_wp2_with (at_builtin; refine wpl_app rfl _ _ 23 rfl _ _ _ _ rfl rfl (unhide RUN9) ?_)
          exact ⟨⟨m, Q ++ [⟨s8, tx⟩], by go_num, by simp; omega, T9, O9, U9, K9⟩, by simp [intOf]⟩
        have b0 : (q == 0) = false := beq_eq_false_iff_ne.2 h0
        have b1 : (q == 1) = false := beq_eq_false_iff_ne.2 h1
        have O8 := hide ((unhide O5).kq (kqx (unhide L7)) (fun q hq => by omega))
        have szK8 := (unhide K7).size
        obtain ⟨v9, w9, run9, o9, b9, _⟩ := pushCapsule w7 w.heap.size (.slice ra Q.length rc) Q ⟨kx, tx⟩ (unhide O8) (by omega) szK8
        have O9 := hide o9
        have RUN9 := hide run9
        have U9 := hide ((cu_low (unhide HU) (unhide U7) b9).mono (Q := P + 10 + 320 * (31 - m)) (by omega))
        have K9 := hide (kx_low (unhide K7) b9)
        have T9 : Hid (∀ D ∈ Q ++ [(⟨kx, tx⟩ : CapsuleD)], D.f1.size ≤ 201) := by
          intro E hE
          rcases List.mem_append.1 hE with hE | hE
          · exact unhide HT E hE
          · rw [List.mem_singleton.1 hE]
            show ByteArray.size tx ≤ 201
            omega
        have y0 := (unhide X7).cv
        have yl := (unhide X7).lt
        clear run9 o9 b9 O8 O5 U7 K7 X7 L7
        go_wp2_with (at_builtin; refine wpl_app rfl _ _ 23 rfl _ _ _ _ rfl rfl (unhide RUN9) ?_)
        exact ⟨⟨m, Q ++ [⟨kx, tx⟩], by go_num, by simp; omega, T9, O9, U9, K9⟩, by simp [intOf]⟩
  | true =>
    go_wp2_with fail
    refine (pick_any cb a N cap (P + 2 + 2) 2 _ hN (by omega) (by omega) (by omega) (unhide U2)).mono ?_
    rintro e w3 ⟨r3, rfl, hs0, hs1, u3, k3⟩
    obtain ⟨n, hn⟩ : ∃ n : Nat, (30 : Int) + r3 = (n : Int) := ⟨(30 + r3).toNat, by omega⟩
    have hn1 : n ≤ 31 := by omega
    have U3 := hide u3
    have K3 := hide ((unhide K2).trans k3)
    clear u3 k3 U2 K2
    have O0 : Hid (Ro capsuleK 30 w.heap.size w3 (.slice none 0 0) ([] : List CapsuleD)) := Ro.nil _ _ _ _
    have V0 := hide ((unhide U3).mono (Q := P + 10 + 320 * (31 - n)) (by omega))
    have J0 := hide (unhide K3)
    clear U3 K3
    go_wp2_with fail
    go_loopw [3, 4] (fun v3 v4 wr => ∃ (m : Nat) (Q : List CapsuleD), v4 = .int .i64 m ∧ Q.length + m ≤ 31 ∧ Hid (∀ D ∈ Q, D.f1.size ≤ 201) ∧ Hid (Ro capsuleK 30 w.heap.size wr v3 Q) ∧ Hid (Cu wr cb a N cap (P + 10 + 320 * (31 - m))) ∧ Hid (Kx cb w wr)) (fun _ v4 _ => (intOf v4).toNat)
    case atStart => exact ⟨n, [], rfl, by simp; omega, (fun D hD => nomatch hD), O0, V0, J0⟩
    case round =>
      obtain ⟨m', Q, rfl, hQ, HT, HO, HV, HJ⟩ := hrel
      clear O0 V0 J0
      obtain ⟨ra, rc, rfl⟩ := (unhide HO).opens
      rcases Nat.eq_zero_or_pos m' with rfl | hm
      · go_wp2
        go_ret
        exact ⟨Q, ra, rc, rfl, by omega, unhide HT, unhide HO, (unhide HV).mono (by omega), unhide HJ⟩
      · obtain ⟨m, rfl⟩ : ∃ m, m' = m + 1 := ⟨m' - 1, by omega⟩
        have hI : (0 : Int) < ((m + 1 : Nat) : Int) := by omega
        have HVq := hide ((unhide HV).mono (Q := P + 10 + 320 * (30 - m)) (by omega))
        clear HV
        obtain ⟨B, hB⟩ : ∃ B, P + 10 + 320 * (30 - m) = B := ⟨_, rfl⟩
        have hB1 : B ≤ 310000 := by omega
        have hB2 : B + 310 ≤ P + 10 + 320 * (31 - m) := by omega
        rw [hB] at HVq
        clear hB
        have hner : wr.heap.size ≠ cb := by have := (unhide HVq).lt; omega
        have HX := hide (lit_cells wr [0, 0, 1, 2, 41, 70000] 3 (fun x => True) (fun _ _ => trivial))
        have UA := hide ((unhide HVq).alloc (.cells #[.int .i64 0, .int .i64 0, .int .i64 1, .int .i64 2, .int .i64 41, .int .i64 70000] 3))
        have KA := hide ((unhide HJ).alloc (.cells #[.int .i64 0, .int .i64 0, .int .i64 1, .int .i64 2, .int .i64 41, .int .i64 70000] 3))
        have OA := hide ((unhide HO).below ((Below.refl _ _).alloc (Nat.le_refl _) (.cells #[.int .i64 0, .int .i64 0, .int .i64 1, .int .i64 2, .int .i64 41, .int .i64 70000] 3)))
        clear HVq HJ HO
        go_wp2_with fail
        refine (among_any cb a N cap B wr.heap.size 6 6 (fun x => True) _ hN (by omega) (by omega) (by omega) (by simp) hner (unhide HX) (unhide UA)).mono ?_
        rintro e w4 ⟨kx, rfl, _, u4, k4⟩
        have U4 := hide u4
        have O4 := hide ((unhide OA).kq (kqx k4) (fun q hq => by omega))
        have K4 := hide ((unhide KA).trans k4)
        clear u4 k4 UA KA OA HX
        go_wp2_with fail
        refine (short_any cb a N cap (B + 2) _ hN (by omega) (unhide U4)).mono ?_
        rintro e w5 ⟨tx, rfl, htx, u5, k5⟩
        have O5 := hide ((unhide O4).kq (kqx k5) (fun q hq => by omega))
        have K5 := hide ((unhide K4).trans k5)
        have sz5 := (unhide K5).size
        have hne5 : w5.heap.size ≠ cb := by have := u5.lt; omega
        obtain ⟨V6, hV6⟩ : ∃ V, V = w5.alloc (.cells #[.int .i64 kx, .string tx] 30) := ⟨_, rfl⟩
        have U6 : Hid (Cu V6 cb a N cap (B + 302)) := by show Cu _ _ _ _ _ _; rw [hV6]; exact (u5.alloc _).mono (by omega)
        have K6 : Hid (Kx cb w V6) := by show Kx _ _ _; rw [hV6]; exact (unhide K5).alloc _
        have L6 : Hid (Kx cb w5 V6) := by show Kx _ _ _; rw [hV6]; exact (Kx.refl _ _).alloc _
        have X6 : Hid (Bx V6 w5.heap.size [.int .i64 kx, .string tx]) := by show Bx _ _ _; rw [hV6]; exact Bx.new w5 _ _
        have HV6 := hide hV6
        clear u5 k5 U4 K4 O4 K5 hV6
        obtain ⟨g, hg⟩ : ∃ g, w5.heap.size = g := ⟨_, rfl⟩
        have hg5 : w5.heap.size ≤ g := by omega
        rw [hg] at X6 hne5 sz5
        have HG := hide hg
        clear hg
        go_upto_region 8 with fail
        rw [← unhide HV6, unhide HG]
        clear HV6 HG
        go_wp2_with fail
        refine (pick_any cb a N cap (B + 302) 30 _ hN (by omega) (by omega) (by omega) (unhide U6)).mono ?_
        rintro e w7 ⟨q, rfl, hq0, hq1, u7, k7⟩
        have U7 := hide u7
        have X7 := hide (bxk (unhide X6) k7 hne5)
        have K7 := hide ((unhide K6).trans k7)
        have L7 := hide ((unhide L6).trans k7)
        clear u7 k7 U6 X6 K6 L6
        by_cases h0 : q = 0
        · subst h0
          go_wp2_with fail
          refine (pick_any cb a N cap (B + 302 + 2) 2 _ hN (by omega) (by omega) (by omega) (unhide U7)).mono ?_
          rintro e w8 ⟨x, rfl, hx0, hx1, u8, k8⟩
          obtain ⟨z, hn⟩ : ∃ z : Nat, 200 + x = (z : Int) := ⟨(200 + x).toNat, by omega⟩
          have hn1 : z ≤ 201 := by omega
          have wn : IntKind.i64.wrap (200 + x) = (z : Int) := by rw [wraps_i64 _ (by omega) (by omega)]; exact hn
          have X8 := hide (bxk (unhide X7) k8 hne5)
          have K8 := hide ((unhide K7).trans k8)
          have L8 := hide ((unhide L7).trans k8)
          have hmk := mk_bytes z (by omega) w8
          obtain ⟨W9, hW9⟩ : ∃ W9, W9 = w8.alloc (.cells (us z fun _ => 0).toArray 5) := ⟨_, rfl⟩
          have hA9 : Ar W9 w8.heap.size 0 z (fun _ => 0) := by rw [hW9]; exact Ar.new w8 z (fun _ => 0) 5
          have hst := ar_string hA9 (fun i _ => by decide) z
          rw [← hW9] at hmk
          have X9 : Hid (Bx W9 g [.int .i64 kx, .string tx]) := by show Bx _ _ _; rw [hW9]; exact (unhide X8).alloc _
          have K9 : Hid (Kx cb w W9) := by show Kx _ _ _; rw [hW9]; exact (unhide K8).alloc _
          have L9 : Hid (Kx cb w5 W9) := by show Kx _ _ _; rw [hW9]; exact (unhide L8).alloc _
          have U9 : Hid (Cu W9 cb a N cap (B + 302 + 2 + 2)) := by show Cu _ _ _ _ _ _; rw [hW9]; exact u8.alloc _
          have hsz := bq_le z 201 (fun _ => 0) hn1
          generalize bq z (fun _ => 0) = bt at *
          have XA := hide (fun u => (unhide X9).set (i := 1) (u := u) (by simp))
          have KA := hide (fun u => (unhide K9).setNew (p := ⟨g, 1, none⟩) sz5 u)
          have LA := hide (fun u => (unhide L9).setNew (p := ⟨g, 1, none⟩) hg5 u)
          have UA := hide (fun u => Cu.setNew (unhide HU) (unhide U9) (g := g) sz5 1 u)
          have y0 := (unhide X9).cv
          have yl := (unhide X9).lt
          have yf := (unhide X9).fz
          clear u8 k8 X8 K8 L8 X7 K7 L7 U7 hA9 hW9 hn K9 L9 U9
          go_upto_region 13 with fail
          obtain ⟨WB, hWB⟩ : ∃ WB, WB = W9.setCell ⟨g, 1, none⟩ (.string bt) := ⟨_, rfl⟩
          have XB : Hid (Bx WB g [.int .i64 kx, .string bt]) := by show Bx _ _ _; rw [hWB]; exact unhide XA _
          have KB : Hid (Kx cb w WB) := by show Kx _ _ _; rw [hWB]; exact unhide KA _
          have LB : Hid (Kx cb w5 WB) := by show Kx _ _ _; rw [hWB]; exact unhide LA _
          have UB : Hid (Cu WB cb a N cap (B + 302 + 2 + 2)) := by show Cu _ _ _ _ _ _; rw [hWB]; exact unhide UA _
          rw [← hWB]
          clear hWB XA KA LA UA y0 yl yf X9 hst hmk wn
          have O8 := hide ((unhide O5).kq (kqx (unhide LB)) (fun q hq => by omega))
          have szK8 := (unhide KB).size
          obtain ⟨v9, w9, run9, o9, b9, _⟩ := pushCapsule WB w.heap.size (.slice ra Q.length rc) Q ⟨kx, bt⟩ (unhide O8) (by omega) szK8
          have O9 := hide o9
          have RUN9 := hide run9
          have U9 := hide ((cu_low (unhide HU) (unhide UB) b9).mono (Q := P + 10 + 320 * (31 - m)) (by omega))
          have K9 := hide (kx_low (unhide KB) b9)
          have T9 : Hid (∀ D ∈ Q ++ [(⟨kx, bt⟩ : CapsuleD)], D.f1.size ≤ 201) := by
            intro E hE
            rcases List.mem_append.1 hE with hE | hE
            · exact unhide HT E hE
            · rw [List.mem_singleton.1 hE]
              show ByteArray.size bt ≤ 201
              omega
          have y0 := (unhide XB).cv
          have yl := (unhide XB).lt
          clear run9 o9 b9 O8 O5 UB KB XB LB
          go_wp2_with (at_builtin; refine wpl_app rfl _ _ 23 rfl _ _ _ _ rfl rfl (unhide RUN9) ?_)
          exact ⟨⟨m, Q ++ [⟨kx, bt⟩], by go_num, by simp; omega, T9, O9, U9, K9⟩, by simp [intOf]⟩
        by_cases h1 : q = 1
        · subst h1
          have hne7 : w7.heap.size ≠ cb := by have := (unhide U7).lt; omega
          have HX := hide (lit_cells w7 [-1, 4611686018427387903, 4611686018427387904] 3 (fun x => True) (fun _ _ => trivial))
          have UA := hide ((unhide U7).alloc (.cells #[.int .i64 (-1), .int .i64 4611686018427387903, .int .i64 4611686018427387904] 3))
          have KA := hide ((unhide K7).alloc (.cells #[.int .i64 (-1), .int .i64 4611686018427387903, .int .i64 4611686018427387904] 3))
          have LA := hide ((unhide L7).alloc (.cells #[.int .i64 (-1), .int .i64 4611686018427387903, .int .i64 4611686018427387904] 3))
          have XA := hide ((unhide X7).alloc (.cells #[.int .i64 (-1), .int .i64 4611686018427387903, .int .i64 4611686018427387904] 3))
          clear X7 K7 L7 U7
          go_wp2_with fail
          refine (among_any cb a N cap (B + 302 + 2) w7.heap.size 3 3 (fun x => True) _ hN (by omega) (by omega) (by omega) (by simp) hne7 (unhide HX) (unhide UA)).mono ?_
          rintro e w8 ⟨s8, rfl, _, u8, k8⟩
          have X8 := hide (bxk (unhide XA) k8 hne5)
          have K8 := hide ((unhide KA).trans k8)
          have L8 := hide ((unhide LA).trans k8)
          have X9 := hide (fun u => (unhide X8).set (i := 0) (u := u) (by simp))
          have K9 := hide (fun u => (unhide K8).setNew (p := ⟨g, 0, none⟩) sz5 u)
          have L9 := hide (fun u => (unhide L8).setNew (p := ⟨g, 0, none⟩) hg5 u)
          have U9 := hide (fun u => Cu.setNew (unhide HU) u8 (g := g) sz5 0 u)
          have y0 := (unhide X8).cv
          have yl := (unhide X8).lt
          have yf := (unhide X8).fz
          clear u8 k8 K8 L8 UA KA LA XA HX hne7
          go_upto_region 13 with fail
          obtain ⟨WB, hWB⟩ : ∃ WB, WB = w8.setCell ⟨g, 0, none⟩ (.int .i64 s8) := ⟨_, rfl⟩
          have XB : Hid (Bx WB g [.int .i64 s8, .string tx]) := by show Bx _ _ _; rw [hWB]; exact unhide X9 _
          have KB : Hid (Kx cb w WB) := by show Kx _ _ _; rw [hWB]; exact unhide K9 _
          have LB : Hid (Kx cb w5 WB) := by show Kx _ _ _; rw [hWB]; exact unhide L9 _
          have UB : Hid (Cu WB cb a N cap (B + 302 + 2 + 2)) := by show Cu _ _ _ _ _ _; rw [hWB]; exact unhide U9 _
          rw [← hWB]
          clear hWB X9 K9 L9 U9 y0 yl yf X8
          have O8 := hide ((unhide O5).kq (kqx (unhide LB)) (fun q hq => by omega))
          have szK8 := (unhide KB).size
          obtain ⟨v9, w9, run9, o9, b9, _⟩ := pushCapsule WB w.heap.size (.slice ra Q.length rc) Q ⟨s8, tx⟩ (unhide O8) (by omega) szK8
          have O9 := hide o9
          have RUN9 := hide run9
          have U9 := hide ((cu_low (unhide HU) (unhide UB) b9).mono (Q := P + 10 + 320 * (31 - m)) (by omega))
          have K9 := hide (kx_low (unhide KB) b9)
          have T9 : Hid (∀ D ∈ Q ++ [(⟨s8, tx⟩ : CapsuleD)], D.f1.size ≤ 201) := by
            intro E hE
            rcases List.mem_append.1 hE with hE | hE
            · exact unhide HT E hE
            · rw [List.mem_singleton.1 hE]
              show ByteArray.size tx ≤ 201
              omega
          have y0 := (unhide XB).cv
          have yl := (unhide XB).lt
          clear run9 o9 b9 O8 O5 UB KB XB LB
          go_wp2_with (at_builtin; refine wpl_app rfl _ _ 23 rfl _ _ _ _ rfl rfl (unhide RUN9) ?_)
          exact ⟨⟨m, Q ++ [⟨s8, tx⟩], by go_num, by simp; omega, T9, O9, U9, K9⟩, by simp [intOf]⟩
        have b0 : (q == 0) = false := beq_eq_false_iff_ne.2 h0
        have b1 : (q == 1) = false := beq_eq_false_iff_ne.2 h1
        have O8 := hide ((unhide O5).kq (kqx (unhide L7)) (fun q hq => by omega))
        have szK8 := (unhide K7).size
        obtain ⟨v9, w9, run9, o9, b9, _⟩ := pushCapsule w7 w.heap.size (.slice ra Q.length rc) Q ⟨kx, tx⟩ (unhide O8) (by omega) szK8
        have O9 := hide o9
        have RUN9 := hide run9
        have U9 := hide ((cu_low (unhide HU) (unhide U7) b9).mono (Q := P + 10 + 320 * (31 - m)) (by omega))
        have K9 := hide (kx_low (unhide K7) b9)
        have T9 : Hid (∀ D ∈ Q ++ [(⟨kx, tx⟩ : CapsuleD)], D.f1.size ≤ 201) := by
          intro E hE
          rcases List.mem_append.1 hE with hE | hE
          · exact unhide HT E hE
          · rw [List.mem_singleton.1 hE]
            show ByteArray.size tx ≤ 201
            omega
        have y0 := (unhide X7).cv
        have yl := (unhide X7).lt
        clear run9 o9 b9 O8 O5 U7 K7 X7 L7
        go_wp2_with (at_builtin; refine wpl_app rfl _ _ 23 rfl _ _ _ _ rfl rfl (unhide RUN9) ?_)
        exact ⟨⟨m, Q ++ [⟨kx, tx⟩], by go_num, by simp; omega, T9, O9, U9, K9⟩, by simp [intOf]⟩
set_option maxHeartbeats 1000000 in
theorem drawCB_any (a : Option Addr) (N cap : Nat) (w : World) (hN : N ≤ 1048576) (h : Cd w a N) :
    Calls Tryd.prog 5 #[.slice a N cap] w fun e w' => ∃ (L : List CapsuleD) (a' : Option Addr) (c' : Nat), e = .returned (.slice a' L.length c') ∧ L.length ≤ 31 ∧ (∀ i, i < L.length → (gt capsuleK L i).f1.size ≤ 1048576) ∧ Rd capsuleK w' a' L ∧ Below w.heap.size w w' := by
  have U0 := hide (cu_first cap 47 h)
  clear h
  go_enter Tryd.func5, Tryd.ntmps5
  go_wp2_with fail
  refine (capsules_any w.heap.size a N cap 0 _ hN (by omega) (unhide U0)).mono ?_
  rintro e w1 ⟨L, a', c', rfl, hL, hT, hR, _, k1⟩
  have Z := hide (And.intro (ro_rdc hR) (Kx.draw k1))
  have HT := hide (show ∀ i, i < L.length → (gt capsuleK L i).f1.size ≤ 1048576 from fun i hi => by have := hT _ (gt_mem capsuleK L i hi); omega)
  clear hR k1 hT U0
  go_wp2
  go_ret
  exact ⟨L, a', c', rfl, hL, unhide HT, (unhide Z).1, (unhide Z).2⟩
end Go.Proofs.YtgieglpjkjncfabDoor.Dr
