/-
  Rows of fields that the model draws.
-/
import Derived.Test.YtidgjjbdabifnabDoorFnd
import Derived.Test.YtidgjjbdabifnabDoorFnl
namespace Go.Proofs.YtidgjjbdabifnabDoor.Dr
open Go.ChangeShapes Go.WideShapes Go.ChangeAt Go.RowKit Go.Deep
open Go.Proofs.YtidgjjbdabifnabDoor.Rc (FieldD fieldK fieldV gt Rd Ro Ro.nil Kq pushField specGF rd_one gdF ro_rix gt_mem)
set_option linter.unusedVariables false
set_option maxRecDepth 100000

theorem kqx {cb : Nat} {w w' : World} (h : Kx cb w w') : Kq (fun q => q = cb) w w' := ⟨h.os, h.tape, h.output, h.size, fun q hq hn => h.block q hq hn⟩
theorem cu_low {w0 W W' : World} {cb : Nat} {a : Option Addr} {N cap P P0 : Nat} (h0 : Cu w0 cb a N cap P0) (h : Cu W cb a N cap P) (hb : Below w0.heap.size W W') : Cu W' cb a N cap P := by
  have hl := h0.lt
  have hc : ∀ q : Nat, W'.cell? ⟨cb, q, none⟩ = W.cell? ⟨cb, q, none⟩ := fun q => World.cell?_of_block (a := ⟨cb, q, none⟩) (hb.block cb (by omega))
  refine ⟨Nat.lt_of_lt_of_le h.lt hb.size, (hc 0).trans h.c0, ?_, ?_, fun q => ?_, ?_⟩
  · obtain ⟨p, h1, h2⟩ := h.c1
    exact ⟨p, h1, (hc 1).trans h2⟩
  · obtain ⟨s, h1, h2, h3⟩ := h.c2
    exact ⟨s, h1, h2, (hc 2).trans h3⟩
  · exact (World.frozen?_of_block (w := W) (a := ⟨cb, q, none⟩) (hb.block cb (by omega))).trans (h.fz q)
  · rcases h.cd with e | ⟨b, off, e, hl1, hn1, hx⟩
    · exact Or.inl e
    · rcases h0.cd with e0 | ⟨b0, off0, e0, hl0, _, _⟩
      · exact Or.inl e0
      · have hbb : b = b0 := by
          rw [e] at e0
          simp at e0
          exact e0.1
        refine Or.inr ⟨b, off, e, Nat.lt_of_lt_of_le hl1 hb.size, hn1, fun i hi => ?_⟩
        obtain ⟨x, h1, h2⟩ := hx i hi
        exact ⟨x, h1, (World.cell?_of_block (a := ⟨b, off + i, none⟩) (hb.block b (by omega))).trans h2⟩
theorem kx_low {cb : Nat} {w W W' : World} (h : Kx cb w W) (hb : Below w.heap.size W W') : Kx cb w W' :=
  ⟨hb.os.trans h.os, hb.tape.trans h.tape, hb.output.trans h.output, Nat.le_trans h.size hb.size, fun k hk hne => (hb.block k hk).trans (h.block k hk hne)⟩
theorem specGF1 (a : Option Addr) (c : Nat) (nm vl : ByteArray) (W : World) (h0 : nm.size ≤ 200) (h1 : vl.size ≤ 200) (h : Rd fieldK W a [⟨nm, vl⟩]) :
    Calls Tryd.prog 24 #[.slice a 1 c] W fun e w' => e = .returned (.bool (gdF [⟨nm, vl⟩])) ∧ Below W.heap.size W w' :=
  specGF [⟨nm, vl⟩] a c W (by show 1 ≤ 1048576; omega) (fun i hi => by
    cases i with
    | zero => exact ⟨by show nm.size ≤ _; omega, by show vl.size ≤ _; omega⟩
    | succ i => exact absurd hi (by simp)) h
theorem rd_oneAt (W : World) (b : Nat) (nm vl : ByteArray) (hb : W.heap.size = b) : Rd fieldK (W.alloc (.cells #[.string nm, .string vl] 33)) (some ⟨b, 0, none⟩) [⟨nm, vl⟩] := hb ▸ rd_one W nm vl
set_option maxHeartbeats 1000000 in
theorem fields_any (cb : Nat) (a : Option Addr) (N cap P : Nat) (w : World) (hN : N ≤ 1048576) (hP : P ≤ 700000) (h : Cu w cb a N cap P) :
    Calls Tryd.prog 35 #[.pointer (some ⟨cb, 0, none⟩)] w fun e w' => ∃ (L : List FieldD) (a' : Option Addr) (c' : Nat), e = .returned (.slice a' L.length c') ∧ L.length ≤ 31 ∧ (∀ D ∈ L, D.f0.size ≤ 200 ∧ D.f1.size ≤ 200) ∧ Ro fieldK 33 w.heap.size w' (.slice a' L.length c') L ∧ Cu w' cb a N cap (P + 1000) ∧ Kx cb w w' := by
  have HU := hide h
  have hcl := h.lt
  clear h
  go_enter Tryd.func35, Tryd.ntmps35
  go_wp2_with fail
  refine (pick_any cb a N cap P 7 _ hN (by omega) (by omega) (by omega) (unhide HU)).mono ?_
  rintro e w1 ⟨r, rfl, hr0, hr1, u1, k1⟩
  have U1 := hide u1
  have K1 := hide k1
  clear u1 k1
  go_wp2_with fail
  refine (one_any cb a N cap (P + 2) 30 _ hN (by omega) (by omega) (by omega) (unhide U1)).mono ?_
  rintro e w2 ⟨rb, rfl, u2, k2⟩
  have U2 := hide u2
  have K2 := hide ((unhide K1).trans k2)
  clear u2 k2 U1 K1
  cases rb with
  | false =>
    obtain ⟨n, rfl⟩ := Int.eq_ofNat_of_zero_le hr0
    have hn : n ≤ 31 := by omega
    have O0 : Hid (Ro fieldK 33 w.heap.size w2 (.slice none 0 0) ([] : List FieldD)) := Ro.nil _ _ _ _
    have V0 := hide ((unhide U2).mono (Q := P + 10 + 30 * (31 - n)) (by omega))
    have J0 := hide (unhide K2)
    clear U2 K2
    go_wp2_with fail
    go_loopw [3, 4] (fun v3 v4 wr => ∃ (m : Nat) (Q : List FieldD), v4 = .int .i64 m ∧ Q.length + m ≤ 31 ∧ Hid (∀ D ∈ Q, D.f0.size ≤ 200 ∧ D.f1.size ≤ 200) ∧ Hid (Ro fieldK 33 w.heap.size wr v3 Q) ∧ Hid (Cu wr cb a N cap (P + 10 + 30 * (31 - m))) ∧ Hid (Kx cb w wr)) (fun _ v4 _ => (intOf v4).toNat)
    case atStart => exact ⟨n, [], rfl, by simp; omega, (fun D hD => nomatch hD), O0, V0, J0⟩
    case round =>
      obtain ⟨m', Q, rfl, hQ, HT, HO, HV, HJ⟩ := hrel
      clear O0 V0 J0
      obtain ⟨ra, rc, rfl⟩ := (unhide HO).opens
      rcases Nat.eq_zero_or_pos m' with rfl | hm
      · go_wp2
        go_ret
        exact ⟨Q, ra, rc, rfl, by omega, unhide HT, unhide HO, (unhide HV).mono (by omega), unhide HJ⟩
      · obtain ⟨m, rfl⟩ : ∃ m, m' = m + 1 := ⟨m' - 1, by omega⟩
        have hI : (0 : Int) < ((m + 1 : Nat) : Int) := by omega
        have HV1 := hide ((unhide HV).mono (Q := P + 10 + 30 * (30 - m)) (by omega))
        go_wp2_with fail
        refine (field_any cb a N cap (P + 10 + 30 * (30 - m)) wr hN (by omega) (unhide HV1)).mono ?_
        rintro e w5 ⟨nm, vl, rfl, hnm, hvl, u5, k5⟩
        have sz5 := k5.size
        have szJ := (unhide HJ).size
        have U5 := hide u5
        have K5 := hide ((unhide HJ).trans k5)
        have O5 := hide ((unhide HO).kq (kqx k5) (fun q hq => by omega))
        have UB := hide ((unhide U5).alloc (.cells #[.string nm, .string vl] 33))
        have KB := hide ((unhide K5).alloc (.cells #[.string nm, .string vl] 33))
        have OB := hide ((unhide O5).below ((Below.refl _ _).alloc (Nat.le_refl _) (.cells #[.string nm, .string vl] 33)))
        have YB := hide (Bx.new w5 [.string nm, .string vl] 33)
        have p0 := (unhide YB).cv
        have pl := (unhide YB).lt
        have RO := hide (rd_oneAt (w5.alloc (.cells #[.string nm, .string vl] 33)) (w5.heap.size + 1) nm vl (by simp))
        have UC := hide ((unhide UB).alloc (.cells #[.string nm, .string vl] 33))
        have KC := hide ((unhide KB).alloc (.cells #[.string nm, .string vl] 33))
        have OC := hide ((unhide OB).below ((Below.refl _ _).alloc (Nat.le_refl _) (.cells #[.string nm, .string vl] 33)))
        have YC := hide ((unhide YB).alloc (.cells #[.string nm, .string vl] 33))
        clear u5 k5 HV HV1 HJ HO U5 K5 O5 UB KB OB YB
        go_wp2_with fail
        refine (specGF1 _ 1 nm vl _ hnm hvl (unhide RO)).mono ?_
        rintro e w6 ⟨rfl, b6⟩
        have U6 := hide ((unhide UC).same b6)
        have K6 := hide ((unhide KC).trans (Kx.of b6))
        have O6 := hide ((unhide OC).below b6)
        have Y6 := hide ((unhide YC).below b6)
        clear b6 RO UC KC OC YC p0 pl
        generalize gdF [⟨nm, vl⟩] = g at *
        cases g with
        | true =>
          obtain ⟨v9, w9, run9, o9, b9, _⟩ := pushField w6 w.heap.size (.slice ra Q.length rc) Q ⟨nm, vl⟩ (unhide O6) (by omega) (by have h1 := (unhide K6).size; omega)
          have O9 := hide o9
          have RUN9 := hide run9
          have U9 := hide ((cu_low (unhide HU) (unhide U6) b9).mono (Q := P + 10 + 30 * (31 - m)) (by omega))
          have K9 := hide (kx_low (unhide K6) b9)
          have T9 : Hid (∀ D ∈ Q ++ [(⟨nm, vl⟩ : FieldD)], D.f0.size ≤ 200 ∧ D.f1.size ≤ 200) := by
            intro E hE
            rcases List.mem_append.1 hE with hE | hE
            · exact unhide HT E hE
            · rw [List.mem_singleton.1 hE]
              exact ⟨hnm, hvl⟩
          have y0 := (unhide Y6).cv
          have yl := (unhide Y6).lt
          clear run9 o9 b9 O6 U6 K6 Y6
          go_wp2_with (at_builtin; refine wpl_app rfl _ _ 22 rfl _ _ _ _ rfl rfl (unhide RUN9) ?_)
          exact ⟨⟨m, Q ++ [⟨nm, vl⟩], by go_num, by simp; omega, T9, O9, U9, K9⟩, by simp [intOf]⟩
        | false =>
          go_wp2_with fail
          refine (one_any cb a N cap (P + 10 + 30 * (30 - m) + 20) 8 _ hN (by omega) (by omega) (by omega) (unhide U6)).mono ?_
          rintro e w7 ⟨rb, rfl, u7, k7⟩
          have sz7 := k7.size
          have U7 := hide u7
          have O7 := hide ((unhide O6).kq (kqx k7) (fun q hq => by omega))
          have Y7 := hide (bxk (unhide Y6) k7 (by omega))
          have K7 := hide ((unhide K6).trans k7)
          clear u7 k7 U6 K6 O6 Y6
          cases rb with
          | true =>
            obtain ⟨v9, w9, run9, o9, b9, _⟩ := pushField w7 w.heap.size (.slice ra Q.length rc) Q ⟨nm, vl⟩ (unhide O7) (by omega) (by have h1 := (unhide K7).size; omega)
            have O9 := hide o9
            have RUN9 := hide run9
            have U9 := hide ((cu_low (unhide HU) (unhide U7) b9).mono (Q := P + 10 + 30 * (31 - m)) (by omega))
            have K9 := hide (kx_low (unhide K7) b9)
            have T9 : Hid (∀ D ∈ Q ++ [(⟨nm, vl⟩ : FieldD)], D.f0.size ≤ 200 ∧ D.f1.size ≤ 200) := by
              intro E hE
              rcases List.mem_append.1 hE with hE | hE
              · exact unhide HT E hE
              · rw [List.mem_singleton.1 hE]
                exact ⟨hnm, hvl⟩
            have y0 := (unhide Y7).cv
            have yl := (unhide Y7).lt
            clear run9 o9 b9 O7 U7 K7 Y7
            go_wp2_with (at_builtin; refine wpl_app rfl _ _ 22 rfl _ _ _ _ rfl rfl (unhide RUN9) ?_)
            exact ⟨⟨m, Q ++ [⟨nm, vl⟩], by go_num, by simp; omega, T9, O9, U9, K9⟩, by simp [intOf]⟩
          | false =>
            have U8 := hide ((unhide U7).mono (Q := P + 10 + 30 * (31 - m)) (by omega))
            clear U7
            go_wp2
            exact ⟨⟨m, Q, by go_num, by omega, HT, O7, U8, K7⟩, by simp [intOf]⟩
  | true =>
    go_wp2_with fail
    refine (pick_any cb a N cap (P + 2 + 2) 2 _ hN (by omega) (by omega) (by omega) (unhide U2)).mono ?_
    rintro e w3 ⟨r3, rfl, hs0, hs1, u3, k3⟩
    obtain ⟨n, hn⟩ : ∃ n : Nat, (30 : Int) + r3 = (n : Int) := ⟨(30 + r3).toNat, by omega⟩
    have hn1 : n ≤ 31 := by omega
    have U3 := hide u3
    have K3 := hide ((unhide K2).trans k3)
    clear u3 k3 U2 K2
    have O0 : Hid (Ro fieldK 33 w.heap.size w3 (.slice none 0 0) ([] : List FieldD)) := Ro.nil _ _ _ _
    have V0 := hide ((unhide U3).mono (Q := P + 10 + 30 * (31 - n)) (by omega))
    have J0 := hide (unhide K3)
    clear U3 K3
    go_wp2_with fail
    go_loopw [3, 4] (fun v3 v4 wr => ∃ (m : Nat) (Q : List FieldD), v4 = .int .i64 m ∧ Q.length + m ≤ 31 ∧ Hid (∀ D ∈ Q, D.f0.size ≤ 200 ∧ D.f1.size ≤ 200) ∧ Hid (Ro fieldK 33 w.heap.size wr v3 Q) ∧ Hid (Cu wr cb a N cap (P + 10 + 30 * (31 - m))) ∧ Hid (Kx cb w wr)) (fun _ v4 _ => (intOf v4).toNat)
    case atStart => exact ⟨n, [], rfl, by simp; omega, (fun D hD => nomatch hD), O0, V0, J0⟩
    case round =>
      obtain ⟨m', Q, rfl, hQ, HT, HO, HV, HJ⟩ := hrel
      clear O0 V0 J0
      obtain ⟨ra, rc, rfl⟩ := (unhide HO).opens
      rcases Nat.eq_zero_or_pos m' with rfl | hm
      · go_wp2
        go_ret
        exact ⟨Q, ra, rc, rfl, by omega, unhide HT, unhide HO, (unhide HV).mono (by omega), unhide HJ⟩
      · obtain ⟨m, rfl⟩ : ∃ m, m' = m + 1 := ⟨m' - 1, by omega⟩
        have hI : (0 : Int) < ((m + 1 : Nat) : Int) := by omega
        have HV1 := hide ((unhide HV).mono (Q := P + 10 + 30 * (30 - m)) (by omega))
        go_wp2_with fail
        refine (field_any cb a N cap (P + 10 + 30 * (30 - m)) wr hN (by omega) (unhide HV1)).mono ?_
        rintro e w5 ⟨nm, vl, rfl, hnm, hvl, u5, k5⟩
        have sz5 := k5.size
        have szJ := (unhide HJ).size
        have U5 := hide u5
        have K5 := hide ((unhide HJ).trans k5)
        have O5 := hide ((unhide HO).kq (kqx k5) (fun q hq => by omega))
        have UB := hide ((unhide U5).alloc (.cells #[.string nm, .string vl] 33))
        have KB := hide ((unhide K5).alloc (.cells #[.string nm, .string vl] 33))
        have OB := hide ((unhide O5).below ((Below.refl _ _).alloc (Nat.le_refl _) (.cells #[.string nm, .string vl] 33)))
        have YB := hide (Bx.new w5 [.string nm, .string vl] 33)
        have p0 := (unhide YB).cv
        have pl := (unhide YB).lt
        have RO := hide (rd_oneAt (w5.alloc (.cells #[.string nm, .string vl] 33)) (w5.heap.size + 1) nm vl (by simp))
        have UC := hide ((unhide UB).alloc (.cells #[.string nm, .string vl] 33))
        have KC := hide ((unhide KB).alloc (.cells #[.string nm, .string vl] 33))
        have OC := hide ((unhide OB).below ((Below.refl _ _).alloc (Nat.le_refl _) (.cells #[.string nm, .string vl] 33)))
        have YC := hide ((unhide YB).alloc (.cells #[.string nm, .string vl] 33))
        clear u5 k5 HV HV1 HJ HO U5 K5 O5 UB KB OB YB
        go_wp2_with fail
        refine (specGF1 _ 1 nm vl _ hnm hvl (unhide RO)).mono ?_
        rintro e w6 ⟨rfl, b6⟩
        have U6 := hide ((unhide UC).same b6)
        have K6 := hide ((unhide KC).trans (Kx.of b6))
        have O6 := hide ((unhide OC).below b6)
        have Y6 := hide ((unhide YC).below b6)
        clear b6 RO UC KC OC YC p0 pl
        generalize gdF [⟨nm, vl⟩] = g at *
        cases g with
        | true =>
          obtain ⟨v9, w9, run9, o9, b9, _⟩ := pushField w6 w.heap.size (.slice ra Q.length rc) Q ⟨nm, vl⟩ (unhide O6) (by omega) (by have h1 := (unhide K6).size; omega)
          have O9 := hide o9
          have RUN9 := hide run9
          have U9 := hide ((cu_low (unhide HU) (unhide U6) b9).mono (Q := P + 10 + 30 * (31 - m)) (by omega))
          have K9 := hide (kx_low (unhide K6) b9)
          have T9 : Hid (∀ D ∈ Q ++ [(⟨nm, vl⟩ : FieldD)], D.f0.size ≤ 200 ∧ D.f1.size ≤ 200) := by
            intro E hE
            rcases List.mem_append.1 hE with hE | hE
            · exact unhide HT E hE
            · rw [List.mem_singleton.1 hE]
              exact ⟨hnm, hvl⟩
          have y0 := (unhide Y6).cv
          have yl := (unhide Y6).lt
          clear run9 o9 b9 O6 U6 K6 Y6
          go_wp2_with (at_builtin; refine wpl_app rfl _ _ 22 rfl _ _ _ _ rfl rfl (unhide RUN9) ?_)
          exact ⟨⟨m, Q ++ [⟨nm, vl⟩], by go_num, by simp; omega, T9, O9, U9, K9⟩, by simp [intOf]⟩
        | false =>
          go_wp2_with fail
          refine (one_any cb a N cap (P + 10 + 30 * (30 - m) + 20) 8 _ hN (by omega) (by omega) (by omega) (unhide U6)).mono ?_
          rintro e w7 ⟨rb, rfl, u7, k7⟩
          have sz7 := k7.size
          have U7 := hide u7
          have O7 := hide ((unhide O6).kq (kqx k7) (fun q hq => by omega))
          have Y7 := hide (bxk (unhide Y6) k7 (by omega))
          have K7 := hide ((unhide K6).trans k7)
          clear u7 k7 U6 K6 O6 Y6
          cases rb with
          | true =>
            obtain ⟨v9, w9, run9, o9, b9, _⟩ := pushField w7 w.heap.size (.slice ra Q.length rc) Q ⟨nm, vl⟩ (unhide O7) (by omega) (by have h1 := (unhide K7).size; omega)
            have O9 := hide o9
            have RUN9 := hide run9
            have U9 := hide ((cu_low (unhide HU) (unhide U7) b9).mono (Q := P + 10 + 30 * (31 - m)) (by omega))
            have K9 := hide (kx_low (unhide K7) b9)
            have T9 : Hid (∀ D ∈ Q ++ [(⟨nm, vl⟩ : FieldD)], D.f0.size ≤ 200 ∧ D.f1.size ≤ 200) := by
              intro E hE
              rcases List.mem_append.1 hE with hE | hE
              · exact unhide HT E hE
              · rw [List.mem_singleton.1 hE]
                exact ⟨hnm, hvl⟩
            have y0 := (unhide Y7).cv
            have yl := (unhide Y7).lt
            clear run9 o9 b9 O7 U7 K7 Y7
            go_wp2_with (at_builtin; refine wpl_app rfl _ _ 22 rfl _ _ _ _ rfl rfl (unhide RUN9) ?_)
            exact ⟨⟨m, Q ++ [⟨nm, vl⟩], by go_num, by simp; omega, T9, O9, U9, K9⟩, by simp [intOf]⟩
          | false =>
            have U8 := hide ((unhide U7).mono (Q := P + 10 + 30 * (31 - m)) (by omega))
            clear U7
            go_wp2
            exact ⟨⟨m, Q, by go_num, by omega, HT, O7, U8, K7⟩, by simp [intOf]⟩
set_option maxHeartbeats 1000000 in
theorem drawGF_any (a : Option Addr) (N cap : Nat) (w : World) (hN : N ≤ 1048576) (h : Cd w a N) :
    Calls Tryd.prog 21 #[.slice a N cap] w fun e w' => ∃ (L : List FieldD) (a' : Option Addr) (c' : Nat), e = .returned (.slice a' L.length c') ∧ L.length ≤ 31 ∧ (∀ i, i < L.length → (gt fieldK L i).f0.size ≤ 1048576 ∧ (gt fieldK L i).f1.size ≤ 1048576) ∧ Rd fieldK w' a' L ∧ Below w.heap.size w w' := by
  have U0 := hide (cu_first cap 62 h)
  clear h
  go_enter Tryd.func21, Tryd.ntmps21
  go_wp2_with fail
  refine (fields_any w.heap.size a N cap 0 _ hN (by omega) (unhide U0)).mono ?_
  rintro e w1 ⟨L, a', c', rfl, hL, hT, hR, _, k1⟩
  have Z := hide (And.intro (ro_rix hR).1.rd (Kx.draw k1))
  have HT := hide (show ∀ i, i < L.length → (gt fieldK L i).f0.size ≤ 1048576 ∧ (gt fieldK L i).f1.size ≤ 1048576 from fun i hi => by have := hT _ (gt_mem fieldK L i hi); omega)
  clear hR k1 hT U0
  go_wp2
  go_ret
  exact ⟨L, a', c', rfl, hL, unhide HT, (unhide Z).1, (unhide Z).2⟩
theorem drawFB_any (a : Option Addr) (N cap : Nat) (w : World) (hN : N ≤ 1048576) (h : Cd w a N) :
    Calls Tryd.prog 10 #[.slice a N cap] w fun e w' => ∃ (L : List FieldD) (a' : Option Addr) (c' : Nat), e = .returned (.slice a' L.length c') ∧ L.length ≤ 31 ∧ (∀ i, i < L.length → (gt fieldK L i).f0.size ≤ 1048576 ∧ (gt fieldK L i).f1.size ≤ 1048576) ∧ Rd fieldK w' a' L ∧ Below w.heap.size w w' := by
  have H := hide (drawGF_any a N cap w hN h)
  clear h
  go_enter Tryd.func10, Tryd.ntmps10
  go_wp2_with fail
  refine (unhide H).mono ?_
  rintro e w1 ⟨L, a', c', rfl, hL, hT, hR, b1⟩
  have Z := hide (And.intro hT (And.intro hR b1))
  clear hR b1 hT H
  go_wp2
  go_ret
  exact ⟨L, a', c', rfl, hL, (unhide Z).1, (unhide Z).2.1, (unhide Z).2.2⟩
end Go.Proofs.YtidgjjbdabifnabDoor.Dr
