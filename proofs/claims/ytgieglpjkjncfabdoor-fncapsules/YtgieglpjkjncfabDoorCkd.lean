/-
  Texts and rows of pieces that the model draws.
-/
import Derived.Test.YtgieglpjkjncfabDoorCkp
import Derived.Test.YtgieglpjkjncfabDoorXsp
import Derived.Test.YtgieglpjkjncfabDoorCpo
import Derived.Test.YtgieglpjkjncfabDoorZrt
import Derived.Deep.DeepCutAuto
namespace Go.Proofs.YtgieglpjkjncfabDoor.Dr
open Go.ChangeShapes Go.WideShapes Go.ChangeAt Go.RowKit Go.Deep
open Go.Proofs.YtgieglpjkjncfabDoor.Rc (CapsuleD capsuleK gt Rd Ro Ro.nil gt_mem cbR gdL specCB cbL cb_len sz_t textK TextD pushText zeros60)
set_option linter.unusedVariables false
set_option maxRecDepth 100000

theorem cbR_le (L : List CapsuleD) : (cbR L).size ≤ 6500 := by
  unfold cbR
  split
  · rename_i h
    unfold gdL at h
    rw [Bool.and_eq_true, decide_eq_true_eq] at h
    have := cb_len L h.2
    show ByteArray.size ⟨(cbL L).toArray⟩ ≤ 6500
    rw [sz_t]
    omega
  · show 0 ≤ 6500
    omega
set_option maxHeartbeats 4000000 in
theorem drawRC_any (a : Option Addr) (N cap : Nat) (w : World) (hN : N ≤ 1048576) (h : Cd w a N) :
    Calls Tryd.prog 24 #[.slice a N cap] w fun e w' => ∃ x : ByteArray, e = .returned (.string x) ∧ x.size ≤ 7000 ∧ Below w.heap.size w w' := by
  have U0 := hide (cu_first cap 47 h)
  clear h
  go_enter Tryd.func24, Tryd.ntmps24
  go_wp2_with fail
  refine (capsules_any w.heap.size a N cap 0 _ hN (by omega) (unhide U0)).mono ?_
  rintro e w1 ⟨L, a', c', rfl, hL, hT, hR, u1, k1⟩
  have U1 := hide u1
  have K1 := hide k1
  have R1 := hide (ro_rdc hR)
  have HT := hide (show ∀ i, i < L.length → (gt capsuleK L i).f1.size ≤ 1048576 from fun i hi => by have := hT _ (gt_mem capsuleK L i hi); omega)
  clear u1 k1 hR hT U0
  go_wp2_with fail
  refine (specCB L a' c' _ (by omega) (unhide HT) (unhide R1)).mono ?_
  rintro e w2 ⟨rfl, b2⟩
  have U2 := hide ((unhide U1).same b2)
  have K2 := hide ((unhide K1).trans (Kx.of b2))
  have hs := cbR_le L
  clear b2 U1 K1 R1 HT hL
  generalize cbR L = s at *
  generalize gdL L = ok at *
  by_cases hb : (1500 : Int) < (s.size : Int)
  · go_wp2_with fail
    refine (one_any w.heap.size a N cap (0 + 10000) 4 _ hN (by omega) (by omega) (by omega) (unhide U2)).mono ?_
    rintro e w3 ⟨rb, rfl, u3, k3⟩
    have U3 := hide u3
    have K3 := hide ((unhide K2).trans k3)
    clear u3 k3 U2 K2
    cases rb with
    | true =>
      have U5 := hide ((unhide U3).mono (Q := 20000) (by omega))
      have K5 := hide (unhide K3)
      clear U3 K3
      go_wp2_with fail
      refine (pick_any w.heap.size a N cap 20000 4 _ hN (by omega) (by omega) (by omega) (unhide U5)).mono ?_
      rintro e w6 ⟨q, rfl, hq0, hq1, u6, k6⟩
      have U6 := hide u6
      have K6 := hide ((unhide K5).trans k6)
      clear u6 k6 U5 K5
      by_cases h0 : q = 0
      · subst h0
        go_wp2_with fail
        refine (spoilt_any w.heap.size a N cap (20000 + 2) s ⟨#[0, 5, 64, 201, 255]⟩ _ hN (by omega) (by omega) rfl (unhide U6)).mono ?_
        rintro e w7 ⟨x, rfl, hx, u7, k7⟩
        have BW := hide (Kx.draw ((unhide K6).trans k7))
        clear u7 k7 U6 K6
        go_wp2
        go_ret
        exact ⟨x, rfl, by omega, unhide BW⟩
      by_cases h1 : q = 1
      · subst h1
        have wn : IntKind.i64.wrap ((s.size : Int) + 1) = ((s.size + 1 : Nat) : Int) := by rw [wraps_i64 _ (by omega) (by omega)]; omega
        go_wp2_with fail
        refine (pick_pos w.heap.size a N cap (20000 + 2) (s.size + 1) _ hN (by omega) (by omega) (by omega) (unhide U6)).mono ?_
        rintro e w7 ⟨i, rfl, hi, u7, k7⟩
        have BW := hide (Kx.draw ((unhide K6).trans k7))
        clear u7 k7 U6 K6 wn
        have i0 : (0 : Int) ≤ (i : Int) := by omega
        have i1 : (i : Int) ≤ (s.size : Int) := by omega
        have i2 : IntKind.i64.wrap (i : Int) = (i : Int) := wraps_i64 _ (by omega) (by omega)
        have i3 : ((i : Int)).toNat = i := Int.toNat_natCast _
        have z1 : (s.extract 0 i).size ≤ 7000 := by rw [ByteArray.size_extract]; omega
        go_wp2
        go_ret
        exact ⟨s.extract 0 i, rfl, z1, unhide BW⟩
      have b0 : (q == 0) = false := beq_eq_false_iff_ne.2 h0
      have b1 : (q == 1) = false := beq_eq_false_iff_ne.2 h1
      have BW := hide (Kx.draw (unhide K6))
      clear U6 K6
      go_wp2
      go_ret
      exact ⟨s, rfl, by omega, unhide BW⟩
    | false =>
      have j1 : (200 : Int) ≤ (s.size : Int) := by omega
      have z0 : (s.extract 0 200).size ≤ 6500 := by rw [ByteArray.size_extract]; omega
      go_upto_region 5 with fail
      clear hb j1 hs
      have hs := z0
      clear z0
      generalize s.extract 0 200 = s at *
      have U5 := hide ((unhide U3).mono (Q := 20000) (by omega))
      have K5 := hide (unhide K3)
      clear U3 K3
      go_wp2_with fail
      refine (pick_any w.heap.size a N cap 20000 4 _ hN (by omega) (by omega) (by omega) (unhide U5)).mono ?_
      rintro e w6 ⟨q, rfl, hq0, hq1, u6, k6⟩
      have U6 := hide u6
      have K6 := hide ((unhide K5).trans k6)
      clear u6 k6 U5 K5
      by_cases h0 : q = 0
      · subst h0
        go_wp2_with fail
        refine (spoilt_any w.heap.size a N cap (20000 + 2) s ⟨#[0, 5, 64, 201, 255]⟩ _ hN (by omega) (by omega) rfl (unhide U6)).mono ?_
        rintro e w7 ⟨x, rfl, hx, u7, k7⟩
        have BW := hide (Kx.draw ((unhide K6).trans k7))
        clear u7 k7 U6 K6
        go_wp2
        go_ret
        exact ⟨x, rfl, by omega, unhide BW⟩
      by_cases h1 : q = 1
      · subst h1
        have wn : IntKind.i64.wrap ((s.size : Int) + 1) = ((s.size + 1 : Nat) : Int) := by rw [wraps_i64 _ (by omega) (by omega)]; omega
        go_wp2_with fail
        refine (pick_pos w.heap.size a N cap (20000 + 2) (s.size + 1) _ hN (by omega) (by omega) (by omega) (unhide U6)).mono ?_
        rintro e w7 ⟨i, rfl, hi, u7, k7⟩
        have BW := hide (Kx.draw ((unhide K6).trans k7))
        clear u7 k7 U6 K6 wn
        have i0 : (0 : Int) ≤ (i : Int) := by omega
        have i1 : (i : Int) ≤ (s.size : Int) := by omega
        have i2 : IntKind.i64.wrap (i : Int) = (i : Int) := wraps_i64 _ (by omega) (by omega)
        have i3 : ((i : Int)).toNat = i := Int.toNat_natCast _
        have z1 : (s.extract 0 i).size ≤ 7000 := by rw [ByteArray.size_extract]; omega
        go_wp2
        go_ret
        exact ⟨s.extract 0 i, rfl, z1, unhide BW⟩
      have b0 : (q == 0) = false := beq_eq_false_iff_ne.2 h0
      have b1 : (q == 1) = false := beq_eq_false_iff_ne.2 h1
      have BW := hide (Kx.draw (unhide K6))
      clear U6 K6
      go_wp2
      go_ret
      exact ⟨s, rfl, by omega, unhide BW⟩
  · have U5 := hide ((unhide U2).mono (Q := 20000) (by omega))
    have K5 := hide (unhide K2)
    clear U2 K2
    go_wp2_with fail
    refine (pick_any w.heap.size a N cap 20000 4 _ hN (by omega) (by omega) (by omega) (unhide U5)).mono ?_
    rintro e w6 ⟨q, rfl, hq0, hq1, u6, k6⟩
    have U6 := hide u6
    have K6 := hide ((unhide K5).trans k6)
    clear u6 k6 U5 K5
    by_cases h0 : q = 0
    · subst h0
      go_wp2_with fail
      refine (spoilt_any w.heap.size a N cap (20000 + 2) s ⟨#[0, 5, 64, 201, 255]⟩ _ hN (by omega) (by omega) rfl (unhide U6)).mono ?_
      rintro e w7 ⟨x, rfl, hx, u7, k7⟩
      have BW := hide (Kx.draw ((unhide K6).trans k7))
      clear u7 k7 U6 K6
      go_wp2
      go_ret
      exact ⟨x, rfl, by omega, unhide BW⟩
    by_cases h1 : q = 1
    · subst h1
      have wn : IntKind.i64.wrap ((s.size : Int) + 1) = ((s.size + 1 : Nat) : Int) := by rw [wraps_i64 _ (by omega) (by omega)]; omega
      go_wp2_with fail
      refine (pick_pos w.heap.size a N cap (20000 + 2) (s.size + 1) _ hN (by omega) (by omega) (by omega) (unhide U6)).mono ?_
      rintro e w7 ⟨i, rfl, hi, u7, k7⟩
      have BW := hide (Kx.draw ((unhide K6).trans k7))
      clear u7 k7 U6 K6 wn
      have i0 : (0 : Int) ≤ (i : Int) := by omega
      have i1 : (i : Int) ≤ (s.size : Int) := by omega
      have i2 : IntKind.i64.wrap (i : Int) = (i : Int) := wraps_i64 _ (by omega) (by omega)
      have i3 : ((i : Int)).toNat = i := Int.toNat_natCast _
      have z1 : (s.extract 0 i).size ≤ 7000 := by rw [ByteArray.size_extract]; omega
      go_wp2
      go_ret
      exact ⟨s.extract 0 i, rfl, z1, unhide BW⟩
    have b0 : (q == 0) = false := beq_eq_false_iff_ne.2 h0
    have b1 : (q == 1) = false := beq_eq_false_iff_ne.2 h1
    have BW := hide (Kx.draw (unhide K6))
    clear U6 K6
    go_wp2
    go_ret
    exact ⟨s, rfl, by omega, unhide BW⟩
/-- the bytes that a text counts -/
def szOf : Value → Nat
  | .string s => s.size
  | _ => 0
set_option maxHeartbeats 4000000 in
theorem drawFC_any (a : Option Addr) (N cap : Nat) (w : World) (hN : N ≤ 1048576) (h : Cd w a N) :
    Calls Tryd.prog 10 #[.slice a N cap] w fun e w' => ∃ (L : List TextD) (a' : Option Addr) (c' : Nat), e = .returned (.slice a' L.length c') ∧ L.length ≤ 101 ∧ (∀ D ∈ L, ByteArray.size D ≤ 7000) ∧ Rd textK w' a' L ∧ Below w.heap.size w w' := by
  have hA := (Below.refl w.heap.size w).alloc (Nat.le_refl _) (.cells #[.slice a N cap, .int .i64 0, .int .u64 0] 47)
  have hc := cu_first cap 47 h
  have hd := fun w' (k : Kx w.heap.size (w.alloc (.cells #[.slice a N cap, .int .i64 0, .int .u64 0] 47)) w') => Kx.draw k
  obtain ⟨V1, hV⟩ : ∃ V, V = w.alloc (.cells #[.slice a N cap, .int .i64 0, .int .u64 0] 47) := ⟨_, rfl⟩
  rw [← hV] at hc hA
  have H := hide (drawRC_any a N cap V1 hN (h.below hA))
  have HU := hide hc
  have hlt := hc.lt
  obtain ⟨cb, hcb⟩ : ∃ cb, w.heap.size = cb := ⟨_, rfl⟩
  have HD : Hid (∀ w', Kx cb V1 w' → Below w.heap.size w w') := fun w' k => hd w' (by rw [← hV, hcb]; exact k)
  rw [hcb] at HU hlt
  have HV := hide hV
  have HCB := hide hcb
  clear hV hc hA hd h hcb
  go_enter Tryd.func10, Tryd.ntmps10
  go_upto_region 2 with fail
  rw [← unhide HV, unhide HCB]
  clear HV HCB
  go_wp2_with fail
  refine (unhide H).mono ?_
  rintro e w2 ⟨s0, rfl, hs0, b2⟩
  have U2 := hide ((unhide HU).same b2)
  have K2 := hide (Kx.of (cb := cb) b2)
  have O2 : Hid (Ro textK 9 V1.heap.size w2 (.slice none 0 0) ([] : List TextD)) := Ro.nil _ _ _ _
  clear b2 H
  go_wp2_with fail
  go_loopw [4, 5] (fun v4 v5 wr => ∃ (s : ByteArray) (Q : List TextD), v4 = .string s ∧ s.size ≤ 7000 ∧ Q.length ≤ 40 ∧ Hid (∀ D ∈ Q, ByteArray.size D ≤ 7000) ∧ Hid (Ro textK 9 V1.heap.size wr v5 Q) ∧ Hid (Cu wr cb a N cap (10 * Q.length)) ∧ Hid (Kx cb V1 wr)) (fun v4 _ _ => szOf v4)
  case atStart => exact ⟨s0, [], rfl, hs0, by simp, (fun D hD => nomatch hD), O2, U2, K2⟩
  case round =>
    obtain ⟨s, Q, rfl, hs, hQ, HT, HO, HV, HJ⟩ := hrel
    clear O2 U2 K2 hs0
    obtain ⟨ra, rc, rfl⟩ := (unhide HO).opens
    by_cases hz : s.size = 0
    · have hz' : ¬ (0 : Int) < (s.size : Int) := by omega
      obtain ⟨v9, w9, run9, o9, b9⟩ := pushText wr V1.heap.size (.slice ra Q.length rc) Q s (unhide HO) (by omega) (unhide HJ).size
      have O9 := hide o9
      have RUN9 := hide run9
      have U9 := hide (cu_low (unhide HU) (unhide HV) b9)
      have K9 := hide (kx_low (unhide HJ) b9)
      have T9 : Hid (∀ D ∈ Q ++ [s], ByteArray.size D ≤ 7000) := by
        intro E hE
        rcases List.mem_append.1 hE with hE | hE
        · exact unhide HT E hE
        · rw [List.mem_singleton.1 hE]
          omega
      have hl9 : (Q ++ [s]).length ≤ 41 := by simp; omega
      clear run9 o9 b9 HO HV HJ
      generalize Q ++ [s] = M at *
      go_wp2_with (at_builtin; refine wpl_app rfl _ _ 33 rfl _ _ _ _ rfl rfl (unhide RUN9) ?_)
      refine (one_any cb a N cap (10 * Q.length) 40 _ hN (by omega) (by omega) (by omega) (unhide U9)).mono ?_
      rintro e w10 ⟨rb, rfl, u10, k10⟩
      have K10 := hide ((unhide K9).trans k10)
      have O10 := hide ((unhide O9).kq (kqx k10) (fun q hq => by omega))
      clear u10 k10 U9 K9 O9 RUN9
      cases rb with
      | false =>
        obtain ⟨ma, mc, rfl⟩ := (unhide O10).opens
        have Z := hide (And.intro (ro_rdc (unhide O10)) (unhide HD _ (unhide K10)))
        clear O10 K10
        go_wp2
        go_ret
        exact ⟨M, ma, mc, rfl, by omega, unhide T9, (unhide Z).1, (unhide Z).2⟩
      | true =>
        obtain ⟨v11, w11, run11, o11, b11⟩ := zeros60 w10 V1.heap.size v9 M (unhide O10) (by omega) (unhide K10).size
        have RUN11 := hide run11
        have hl11 : (M ++ List.replicate 60 (⟨#[]⟩ : ByteArray)).length ≤ 101 := by rw [List.length_append, List.length_replicate]; omega
        have T11 : Hid (∀ D ∈ M ++ List.replicate 60 (⟨#[]⟩ : ByteArray), ByteArray.size D ≤ 7000) := by
          intro E hE
          rcases List.mem_append.1 hE with hE | hE
          · exact unhide T9 E hE
          · rw [List.eq_of_mem_replicate hE]
            show 0 ≤ 7000
            omega
        generalize M ++ List.replicate 60 (⟨#[]⟩ : ByteArray) = M2 at *
        have o11' := o11
        obtain ⟨ma, mc, rfl⟩ := o11'.opens
        have Z := hide (And.intro (ro_rdc o11) (unhide HD _ (kx_low (unhide K10) b11)))
        clear O10 K10 run11 o11 o11' b11
        go_wp2_with (at_builtin; refine Lib.wpList_append_run _ rfl _ _ _ _ rfl _ _ rfl rfl _ _ (unhide RUN11) ?_)
        go_ret
        exact ⟨M2, ma, mc, rfl, hl11, unhide T11, (unhide Z).1, (unhide Z).2⟩
    have hz' : (0 : Int) < (s.size : Int) := by omega
    by_cases hq : Q.length = 40
    · have hq' : ¬ (Q.length : Int) < (40 : Int) := by omega
      clear hq
      obtain ⟨v9, w9, run9, o9, b9⟩ := pushText wr V1.heap.size (.slice ra Q.length rc) Q s (unhide HO) (by omega) (unhide HJ).size
      have O9 := hide o9
      have RUN9 := hide run9
      have U9 := hide (cu_low (unhide HU) (unhide HV) b9)
      have K9 := hide (kx_low (unhide HJ) b9)
      have T9 : Hid (∀ D ∈ Q ++ [s], ByteArray.size D ≤ 7000) := by
        intro E hE
        rcases List.mem_append.1 hE with hE | hE
        · exact unhide HT E hE
        · rw [List.mem_singleton.1 hE]
          omega
      have hl9 : (Q ++ [s]).length ≤ 41 := by simp; omega
      clear run9 o9 b9 HO HV HJ
      generalize Q ++ [s] = M at *
      go_wp2_with (at_builtin; refine wpl_app rfl _ _ 33 rfl _ _ _ _ rfl rfl (unhide RUN9) ?_)
      refine (one_any cb a N cap (10 * Q.length) 40 _ hN (by omega) (by omega) (by omega) (unhide U9)).mono ?_
      rintro e w10 ⟨rb, rfl, u10, k10⟩
      have K10 := hide ((unhide K9).trans k10)
      have O10 := hide ((unhide O9).kq (kqx k10) (fun q hq => by omega))
      clear u10 k10 U9 K9 O9 RUN9
      cases rb with
      | false =>
        obtain ⟨ma, mc, rfl⟩ := (unhide O10).opens
        have Z := hide (And.intro (ro_rdc (unhide O10)) (unhide HD _ (unhide K10)))
        clear O10 K10
        go_wp2
        go_ret
        exact ⟨M, ma, mc, rfl, by omega, unhide T9, (unhide Z).1, (unhide Z).2⟩
      | true =>
        obtain ⟨v11, w11, run11, o11, b11⟩ := zeros60 w10 V1.heap.size v9 M (unhide O10) (by omega) (unhide K10).size
        have RUN11 := hide run11
        have hl11 : (M ++ List.replicate 60 (⟨#[]⟩ : ByteArray)).length ≤ 101 := by rw [List.length_append, List.length_replicate]; omega
        have T11 : Hid (∀ D ∈ M ++ List.replicate 60 (⟨#[]⟩ : ByteArray), ByteArray.size D ≤ 7000) := by
          intro E hE
          rcases List.mem_append.1 hE with hE | hE
          · exact unhide T9 E hE
          · rw [List.eq_of_mem_replicate hE]
            show 0 ≤ 7000
            omega
        generalize M ++ List.replicate 60 (⟨#[]⟩ : ByteArray) = M2 at *
        have o11' := o11
        obtain ⟨ma, mc, rfl⟩ := o11'.opens
        have Z := hide (And.intro (ro_rdc o11) (unhide HD _ (kx_low (unhide K10) b11)))
        clear O10 K10 run11 o11 o11' b11
        go_wp2_with (at_builtin; refine Lib.wpList_append_run _ rfl _ _ _ _ rfl _ _ rfl rfl _ _ (unhide RUN11) ?_)
        go_ret
        exact ⟨M2, ma, mc, rfl, hl11, unhide T11, (unhide Z).1, (unhide Z).2⟩
    have hq' : (Q.length : Int) < (40 : Int) := by omega
    go_wp2_with fail
    refine (pick_any cb a N cap (10 * Q.length) 40 _ hN (by omega) (by omega) (by omega) (unhide HV)).mono ?_
    rintro e w5 ⟨r, rfl, hr0, hr1, u5, k5⟩
    obtain ⟨m, hm⟩ : ∃ m : Nat, 1 + r = (m : Int) := ⟨(1 + r).toNat, by omega⟩
    have hm1 : 1 ≤ m := by omega
    have wn : IntKind.i64.wrap (1 + r) = (m : Int) := by rw [wraps_i64 _ (by omega) (by omega)]; exact hm
    have U5 := hide u5
    have K5 := hide ((unhide HJ).trans k5)
    have O5 := hide ((unhide HO).kq (kqx k5) (fun q hq => by omega))
    clear u5 k5 HV HJ HO hm hr0 hr1
    by_cases hk : s.size < m
    · have hk' : (s.size : Int) < (m : Int) := by omega
      obtain ⟨k, hke⟩ : ∃ k, k = s.size := ⟨_, rfl⟩
      have hk1 : 1 ≤ k := by omega
      have hk2 : k ≤ s.size := by omega
      go_upto_region 8 with fail
      rw [← hke]
      clear hk hk' wn hm1 hke
      have k0 : (0 : Int) ≤ (k : Int) := by omega
      have k1' : (k : Int) ≤ (s.size : Int) := by omega
      have k3 : ((k : Int)).toNat = k := Int.toNat_natCast _
      have hx0 : (s.extract 0 k).size ≤ 7000 := by rw [ByteArray.size_extract]; omega
      have hx1 : (s.extract k s.size).size = s.size - k := by rw [ByteArray.size_extract]; omega
      obtain ⟨v9, w9, run9, o9, b9⟩ := pushText w5 V1.heap.size (.slice ra Q.length rc) Q (s.extract 0 k) (unhide O5) (by omega) (unhide K5).size
      have O9 := hide o9
      have RUN9 := hide run9
      have U9 := hide ((cu_low (unhide HU) (unhide U5) b9).mono (Q := 10 * (Q ++ [s.extract 0 k]).length) (by rw [List.length_append]; show _ ≤ 10 * (Q.length + 1); omega))
      have K9 := hide (kx_low (unhide K5) b9)
      have T9 : Hid (∀ D ∈ Q ++ [s.extract 0 k], ByteArray.size D ≤ 7000) := by
        intro E hE
        rcases List.mem_append.1 hE with hE | hE
        · exact unhide HT E hE
        · rw [List.mem_singleton.1 hE]
          exact hx0
      clear run9 o9 b9 O5 U5 K5
      go_wp2_with (at_builtin; refine wpl_app rfl _ _ 33 rfl _ _ _ _ rfl rfl (unhide RUN9) ?_)
      exact ⟨⟨s.extract k s.size, Q ++ [s.extract 0 k], rfl, by omega, by simp; omega, T9, O9, U9, K9⟩, by simp [szOf]; omega⟩
    · have hk' : ¬ (s.size : Int) < (m : Int) := by omega
      go_upto_region 8 with fail
      obtain ⟨k, rfl⟩ : ∃ k, k = m := ⟨_, rfl⟩
      have hk1 : 1 ≤ k := hm1
      have hk2 : k ≤ s.size := by omega
      clear hk hk' wn hm1
      have k0 : (0 : Int) ≤ (k : Int) := by omega
      have k1' : (k : Int) ≤ (s.size : Int) := by omega
      have k3 : ((k : Int)).toNat = k := Int.toNat_natCast _
      have hx0 : (s.extract 0 k).size ≤ 7000 := by rw [ByteArray.size_extract]; omega
      have hx1 : (s.extract k s.size).size = s.size - k := by rw [ByteArray.size_extract]; omega
      obtain ⟨v9, w9, run9, o9, b9⟩ := pushText w5 V1.heap.size (.slice ra Q.length rc) Q (s.extract 0 k) (unhide O5) (by omega) (unhide K5).size
      have O9 := hide o9
      have RUN9 := hide run9
      have U9 := hide ((cu_low (unhide HU) (unhide U5) b9).mono (Q := 10 * (Q ++ [s.extract 0 k]).length) (by rw [List.length_append]; show _ ≤ 10 * (Q.length + 1); omega))
      have K9 := hide (kx_low (unhide K5) b9)
      have T9 : Hid (∀ D ∈ Q ++ [s.extract 0 k], ByteArray.size D ≤ 7000) := by
        intro E hE
        rcases List.mem_append.1 hE with hE | hE
        · exact unhide HT E hE
        · rw [List.mem_singleton.1 hE]
          exact hx0
      clear run9 o9 b9 O5 U5 K5
      go_wp2_with (at_builtin; refine wpl_app rfl _ _ 33 rfl _ _ _ _ rfl rfl (unhide RUN9) ?_)
      exact ⟨⟨s.extract k s.size, Q ++ [s.extract 0 k], rfl, by omega, by simp; omega, T9, O9, U9, K9⟩, by simp [szOf]; omega⟩
end Go.Proofs.YtgieglpjkjncfabDoor.Dr
