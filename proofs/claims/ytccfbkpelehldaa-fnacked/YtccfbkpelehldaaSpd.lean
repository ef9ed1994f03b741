/-
  Contracts: spaces that the model draws.
-/
import Derived.Test.YtccfbkpelehldaaDnm
import Derived.Test.YtccfbkpelehldaaSpo
import Derived.Test.YtccfbkpelehldaaTas
import Derived.Deep.RegionHeld3
namespace Go.Proofs.Ytccfbkpelehldaa.Rc
open Go.ChangeShapes Go.WideShapes Go.ChangeAt Go.RowKit Go.Deep
set_option linter.unusedVariables false
set_option maxRecDepth 100000

theorem st7d {U : World} {p : Nat} {z0 z1 z2 z3 z4 z5 z6 : Value} (h : Bx U p [z0, z1, z2, z3, z4, z5, z6]) (v0 v1 v2 v3 v4 v5 v6 : Value) :
    Bx (((((((U.setCell ⟨p, 0, none⟩ v0).setCell ⟨p, 1, none⟩ v1).setCell ⟨p, 2, none⟩ v2).setCell ⟨p, 3, none⟩ v3).setCell ⟨p, 4, none⟩ v4).setCell ⟨p, 5, none⟩ v5).setCell ⟨p, 6, none⟩ v6) p [v0, v1, v2, v3, v4, v5, v6] ∧
    Kq (fun q => q = p) U (((((((U.setCell ⟨p, 0, none⟩ v0).setCell ⟨p, 1, none⟩ v1).setCell ⟨p, 2, none⟩ v2).setCell ⟨p, 3, none⟩ v3).setCell ⟨p, 4, none⟩ v4).setCell ⟨p, 5, none⟩ v5).setCell ⟨p, 6, none⟩ v6) :=
  ⟨((((((h.set (i := 0) (by simp)).set (i := 1) (by simp)).set (i := 2) (by simp)).set (i := 3) (by simp)).set (i := 4) (by simp)).set (i := 5) (by simp)).set (i := 6) (by simp),
   (((((((Kq.refl (fun q => q = p) U).set rfl).set rfl).set rfl).set rfl).set rfl).set rfl).set rfl⟩
theorem ta_le (D : SpaceD) (L : List RangeD) (now de : Int) (r : Bool) : (taD D L now de r).S.length ≤ D.S.length := by
  cases r with
  | false => exact Nat.zero_le _
  | true =>
    show ((lfS L D.S).filter _).length ≤ _
    have h1 := List.length_filter_le (fun x => !loB (taG D L) now (taR D L now de) x) (lfS L D.S)
    have h2 := List.length_filter_le (fun x : SentD => !hasB L x.f0) D.S
    unfold lfS at h1 ⊢
    omega
theorem sn_le (D : SpaceD) (x : SentD) (r : Bool) : (snD D x r).S.length ≤ D.S.length + 1 := by
  cases r with
  | false => exact Nat.zero_le _
  | true => show (D.S ++ [x]).length ≤ _; simp
/-- what is drawn: a space and a time -/
def SPQ (cb : Nat) (a : Option Addr) (N cap P : Nat) (w : World) (e : Ending) (w' : World) : Prop :=
  ∃ (D : SpaceD) (aS : Option Addr) (cS : Nat) (nw : Int), e = .returned (.tuple #[spaceV D aS cS, .int .i64 nw]) ∧ D.S.length ≤ 20 ∧ D.S.length ≤ cS ∧ Ri sentK w.heap.size w'.heap.size w' aS D.S ∧ Cu w' cb a N cap (P + 450) ∧ Kx cb w w'
set_option maxHeartbeats 32000000 in
theorem space_any (cb : Nat) (a : Option Addr) (N cap P : Nat) (w : World) (hN : N ≤ 1048576) (hP : P ≤ 300000) (h : Cu w cb a N cap P) :
    Calls Try.prog 10 #[.pointer (some ⟨cb, 0, none⟩)] w fun e w' => SPQ cb a N cap P w e w' := by
  have hcb := h.lt
  have H00 := hide h
  obtain ⟨V0, hV0⟩ : ∃ V, V = (w.alloc (.cells #[.int .i64 0, .slice none 0 0, .bool false, .int .i64 0, .int .i64 0, .int .i64 0, .int .i64 0] 27)).alloc (.cells #[.int .i64 (-1), .slice none 0 0, .bool false, .int .i64 0, .int .i64 0, .int .i64 0, .int .i64 0] 27) := ⟨_, rfl⟩
  have R0 := hide (show Bx V0 w.heap.size spaceZ by rw [hV0]; exact (Bx.new w _ _).alloc _)
  have X0 := hide (show Bx V0 (w.heap.size + 1) (spaceC ⟨-1, [], ⟨false, 0, 0, 0, 0⟩⟩ none 0) by rw [hV0]; exact Bx.newAt (w.alloc _) _ _ _ (by simp))
  have U0 := hide (show Cu V0 cb a N cap P by rw [hV0]; exact (h.alloc _).alloc _)
  have K0 := hide (show Kx cb w V0 by rw [hV0]; exact ((Kx.refl cb w).alloc _).alloc _)
  have HV0 := hide hV0
  clear h hV0
  go_enter Try.func10, Try.ntmps10
  go_upto_region 2 with fail
  rw [← unhide HV0]
  clear HV0
  go_wp2_with fail
  refine (pickN cb a N cap P 14 _ hN (by omega) (by omega) (by omega) (unhide U0)).mono ?_
  rintro e w1 ⟨n1, rfl, q1, u1, k1⟩
  have R1 := hide (bx_kx (unhide R0) k1 (by omega))
  have X1 := hide (bx_kx (unhide X0) k1 (by omega))
  have O1 := hide (Ro.nil sentK 37 (w.heap.size + 2) w1)
  have U1 := hide u1
  have K1 := hide ((unhide K0).trans k1)
  clear u1 k1 R0 X0 U0 K0
  go_wp2_with fail
  go_loopw [5, 6, 7] (fun v5 v6 v7 wr => ∃ (j n : Nat) (nw nx : Int) (D : SpaceD) (aS : Option Addr) (cS : Nat), n + j ≤ 13 ∧ v5 = .int .i64 nw ∧ v6 = .int .i64 nx ∧ v7 = .int .i64 n ∧ D.S.length ≤ j ∧ Hid (Bx wr w.heap.size spaceZ) ∧ Hid (Bx wr (w.heap.size + 1) (spaceC D aS cS)) ∧ Hid (Ro sentK 37 (w.heap.size + 2) wr (.slice aS D.S.length cS) D.S) ∧ Hid (Cu wr cb a N cap (P + 2 + 30 * j)) ∧ Hid (Kx cb w wr)) (fun _ _ v7 _ => (intOf v7).toNat)
  case atStart => exact ⟨0, n1, 0, 0, ⟨-1, [], ⟨false, 0, 0, 0, 0⟩⟩, none, 0, by omega, rfl, rfl, rfl, Nat.le_refl _, R1, X1, O1, U1, K1⟩
  case round =>
    obtain ⟨j, n, nw, nx, D, aS, cS, hj, rfl, rfl, rfl, hDj, BR, BS, RS, CU, KX⟩ := hrel
    clear R1 X1 O1 U1 K1
    have szr : w.heap.size + 1 < wr.heap.size := (unhide BS).lt
    by_cases hn0 : 0 < n
    · have hn1 : (0 : Int) < (n : Int) := by omega
      obtain ⟨n, rfl⟩ : ∃ n', n = n' + 1 := ⟨n - 1, by omega⟩
      go_wp2_with fail
      refine (pickN cb a N cap (P + 2 + 30 * j) 20 _ hN (by omega) (by omega) (by omega) (unhide CU)).mono ?_
      rintro e w2 ⟨r2, rfl, q2, u2, k2⟩
      replace BR := hide (bx_kx (unhide BR) k2 (by omega))
      replace BS := hide (bx_kx (unhide BS) k2 (by omega))
      replace RS := hide ((unhide RS).kq (kx_kq k2) (fun q hq => by omega))
      replace KX := hide ((unhide KX).trans k2)
      replace CU := hide u2
      have sz2 := k2.size
      clear u2 k2
      go_wp2_with fail
      generalize wrap64 (nw + (r2 : Int)) = nw at *
      refine (one_any cb a N cap (P + 2 + 30 * j + 2) 5 _ hN (by omega) (by omega) (by omega) (unhide CU)).mono ?_
      rintro e w3 ⟨rb, rfl, u3, k3⟩
      replace BR := hide (bx_kx (unhide BR) k3 (by omega))
      replace BS := hide (bx_kx (unhide BS) k3 (by omega))
      replace RS := hide ((unhide RS).kq (kx_kq k3) (fun q hq => by omega))
      replace KX := hide ((unhide KX).trans k3)
      replace CU := hide u3
      have sz3 := k3.size
      clear u3 k3
      cases rb with
      | true =>
        go_wp2_with fail
        refine (numbers_any cb a N cap (P + 2 + 30 * j + 2 + 2) _ hN (by omega) (unhide CU)).mono ?_
        rintro e w4 ⟨aL, cL, L, rfl, hL, hB, iL, u4, k4⟩
        replace BR := hide (bx_kx (unhide BR) k4 (by omega))
        replace BS := hide (bx_kx (unhide BS) k4 (by omega))
        replace RS := hide ((unhide RS).kq (kx_kq k4) (fun q hq => by omega))
        replace KX := hide ((unhide KX).trans k4)
        replace CU := hide u4
        have RL := hide iL
        have HB := hide hB
        have sz4 := k4.size
        clear u4 k4 iL hB
        by_cases hl0 : 0 < L.length
        · have hl1 : (0 : Int) < (L.length : Int) := by omega
          go_upto_region 11 with fail
          go_cut [9, 12] (fun s9 s12 wx => ∃ (pX : Nat) (aE : Option Addr) (cE : Nat) (E : SpaceD) (ok : Bool), s9 = .pointer (some ⟨pX, 0, none⟩) ∧ s12 = .bool ok ∧ E.S.length ≤ D.S.length ∧ w.heap.size + 2 ≤ pX ∧ Hid (Bx wx pX (spaceC E aE cE)) ∧ Hid (Ro sentK 37 (w.heap.size + 2) wx (.slice aE E.S.length cE) E.S) ∧ Hid (Bx wx w.heap.size spaceZ) ∧ Hid (Bx wx (w.heap.size + 1) (spaceC D aS cS)) ∧ Hid (Ro sentK 37 (w.heap.size + 2) wx (.slice aS D.S.length cS) D.S) ∧ Hid (Ri rangeK w3.heap.size w4.heap.size wx aL L) ∧ Hid (Cu wx cb a N cap (P + 2 + 30 * j + 28)) ∧ Hid (Kx cb w wx))
          case first =>
            refine wp_region_noPanic ?_
            refine wp_region_held_drew (S := fun V => Kx cb w4 V) (by kernel_rfl) (Kx.refl cb w4).drew (fun hHeld => ?_)
            refine wpAnyH_take (i := 0) (v := ?_) rfl (by kernel_rfl) (by kernel_rfl) (by kernel_rfl) (fun _ _ _ h => h) (Or.inl ⟨by rfl, ?_⟩) hHeld ?_
            rotate_left
            · intro V hSw; have y1 := (bx_kx (unhide BS) hSw (by omega)).cv; have y2 := (bx_kx (unhide BS) hSw (by omega)).lt; go_simp; rfl
            try simp only [Act.put, List.getElem_toArray, List.getElem_cons_zero, List.setIfInBounds_toArray, List.set_cons_zero, List.set_cons_succ]
            refine wpAnyH_take (i := 1) (v := ?_) rfl (by kernel_rfl) (by kernel_rfl) (by kernel_rfl) (fun _ _ _ h => h) (Or.inl ⟨by rfl, ?_⟩) hHeld ?_
            rotate_left
            · intro V hSw; go_simp; rfl
            try simp only [Act.put, List.getElem_toArray, List.getElem_cons_succ, List.getElem_cons_zero, List.setIfInBounds_toArray, List.set_cons_zero, List.set_cons_succ]
            refine wpAnyH_take (i := 2) (v := ?_) rfl (by kernel_rfl) (by kernel_rfl) (by kernel_rfl) (fun _ _ _ h => h) (Or.inl ⟨by rfl, ?_⟩) hHeld ?_
            rotate_left
            · intro V hSw; go_simp; rfl
            try simp only [Act.put, List.getElem_toArray, List.getElem_cons_succ, List.getElem_cons_zero, List.setIfInBounds_toArray, List.set_cons_zero, List.set_cons_succ]
            refine wpAnyH_take (i := 3) (v := ?_) rfl (by kernel_rfl) (by kernel_rfl) (by kernel_rfl) (fun _ _ _ h => h) (Or.inl ⟨by rfl, ?_⟩) hHeld ?_
            rotate_left
            · intro V hSw; go_simp; rfl
            try simp only [Act.put, List.getElem_toArray, List.getElem_cons_succ, List.getElem_cons_zero, List.setIfInBounds_toArray, List.set_cons_zero, List.set_cons_succ]
            obtain ⟨U0, hU0⟩ : ∃ U, U = w4.drew := ⟨_, rfl⟩
            rw [← hU0] at hHeld ⊢
            have b0 : Below w4.heap.size w4 U0 := by rw [hU0]; exact (Below.refl _ _).drew
            replace CU := hide ((unhide CU).same b0)
            replace KX := hide ((unhide KX).trans (Kx.of b0))
            replace BR := hide ((unhide BR).below b0)
            replace BS := hide ((unhide BS).below b0)
            replace RS := hide ((unhide RS).below b0)
            replace RL := hide ((unhide RL).below b0)
            have szU0 := b0.size
            clear hU0 b0
            refine wpAnyH_ready (rs := [4, 11]) (by kernel_rfl) (by simp) ?_
            refine (AllReadyH.cons rfl (fun K hK => ?_) (AllReadyH.cons rfl (fun K hK => ?_) AllReadyH.nil))
            · -- the call first
              go_simp
              go_at_call 12
              refine (pickN cb a N cap (P + 2 + 30 * j + 2 + 2 + 22) 9 _ hN (by omega) (by omega) (by omega) (unhide CU)).mono ?_
              rintro e w5 ⟨r5, rfl, qr5, u5, k5⟩
              refine hK.out _ _ (hHeld.trans k5) (fun hHeld => ?_)
              clear hK K
              try simp only [Act.put, List.getElem_toArray, List.getElem_cons_succ, List.getElem_cons_zero, List.setIfInBounds_toArray, List.set_cons_zero, List.set_cons_succ]
              replace CU := hide u5
              replace KX := hide ((unhide KX).trans k5)
              replace BR := hide (bx_kx (unhide BR) k5 (by omega))
              replace BS := hide (bx_kx (unhide BS) k5 (by omega))
              replace RS := hide ((unhide RS).kq (kx_kq k5) (fun q hq => by omega))
              replace RL := hide ((unhide RL).kq (kx_kq k5) (fun q hq => Or.inl (by omega)))
              have szw5 := k5.size
              clear u5 k5
              refine wpAnyH_ready (rs := [5, 11]) (by kernel_rfl) (by simp) ?_
              refine (AllReadyH.cons rfl (fun K hK => ?_) (AllReadyH.cons rfl (fun K hK => ?_) AllReadyH.nil))
              · -- the call first
                go_simp
                go_at_call 6
                refine (specTAo D L nw _ (by omega) (by omega) (mem_rgO (unhide HB)) _ aS cS aL cL (unhide RS).ri.1.rd (unhide RL).rd).mono ?_
                rintro e w6 ⟨aE, cE, a8, c8, a9, c9, g0, g1, g2, rfl, ⟨_, _, _, _, _, _, b6⟩, oE⟩
                have hEl := ta_le D L nw r5 (taB D L nw r5)
                generalize taD D L nw r5 (taB D L nw r5) = E at *
                generalize taB D L nw r5 = ok at *
                generalize (taA D L ok).length = lA at *
                generalize (taL D L nw r5 ok).length = lL at *
                refine hK.out _ _ (hHeld.trans (Kx.of b6)) (fun hHeld => ?_)
                clear hK K
                try simp only [Act.put, List.getElem_toArray, List.getElem_cons_succ, List.getElem_cons_zero, List.setIfInBounds_toArray, List.set_cons_zero, List.set_cons_succ]
                replace CU := hide ((unhide CU).same b6)
                replace KX := hide ((unhide KX).trans (Kx.of b6))
                replace BR := hide ((unhide BR).below b6)
                replace BS := hide ((unhide BS).below b6)
                replace RS := hide ((unhide RS).below b6)
                replace RL := hide ((unhide RL).below b6)
                have szw6 := b6.size
                have RE := hide oE
                clear oE b6
                refine wpAnyH_take (i := 6) (v := ?_) rfl (by kernel_rfl) (by kernel_rfl) (by kernel_rfl) (fun _ _ _ h => h) (Or.inl ⟨by rfl, ?_⟩) hHeld ?_
                rotate_left
                · intro V hSw; go_simp; rfl
                try simp only [Act.put, List.getElem_toArray, List.getElem_cons_succ, List.getElem_cons_zero, List.setIfInBounds_toArray, List.set_cons_zero, List.set_cons_succ]
                refine wpAnyH_take (i := 7) (v := ?_) rfl (by kernel_rfl) (by kernel_rfl) (by kernel_rfl) (fun _ _ _ h => h) (Or.inl ⟨by rfl, ?_⟩) hHeld ?_
                rotate_left
                · intro V hSw; go_simp; rfl
                try simp only [Act.put, List.getElem_toArray, List.getElem_cons_succ, List.getElem_cons_zero, List.setIfInBounds_toArray, List.set_cons_zero, List.set_cons_succ]
                refine wpAnyH_take (i := 8) (v := ?_) rfl (by kernel_rfl) (by kernel_rfl) (by kernel_rfl) (fun _ _ _ h => h) (Or.inl ⟨by rfl, ?_⟩) hHeld ?_
                rotate_left
                · intro V hSw; go_simp; rfl
                try simp only [Act.put, List.getElem_toArray, List.getElem_cons_succ, List.getElem_cons_zero, List.setIfInBounds_toArray, List.set_cons_zero, List.set_cons_succ]
                refine wpAnyH_take (i := 9) (v := ?_) rfl (by kernel_rfl) (by kernel_rfl) (by kernel_rfl) (fun _ _ _ h => h) (Or.inl ⟨by rfl, ?_⟩) hHeld ?_
                rotate_left
                · intro V hSw; go_simp; rfl
                try simp only [Act.put, List.getElem_toArray, List.getElem_cons_succ, List.getElem_cons_zero, List.setIfInBounds_toArray, List.set_cons_zero, List.set_cons_succ]
                refine wpAnyH_take (i := 10) (v := ?_) rfl (by kernel_rfl) (by kernel_rfl) (by kernel_rfl) (fun _ _ _ h => h) (Or.inl ⟨by rfl, ?_⟩) hHeld ?_
                rotate_left
                · intro V hSw; go_simp; rfl
                try simp only [Act.put, List.getElem_toArray, List.getElem_cons_succ, List.getElem_cons_zero, List.setIfInBounds_toArray, List.set_cons_zero, List.set_cons_succ]
                refine wpAnyH_ready (rs := [11]) (by kernel_rfl) (by simp) ?_
                refine (AllReadyH.cons rfl (fun K hK => ?_) AllReadyH.nil)
                go_simp
                obtain ⟨U1, hU⟩ : ∃ U, U = w6.alloc (.cells #[.int .i64 0, .slice none 0 0, .bool false, .int .i64 0, .int .i64 0, .int .i64 0, .int .i64 0] 27) := ⟨_, rfl⟩
                have bU : Below w6.heap.size w6 U1 := by rw [hU]; exact (Below.refl _ _).alloc (Nat.le_refl _) _
                have BXX := hide (show Bx U1 w6.heap.size [.int .i64 0, .slice none 0 0, .bool false, .int .i64 0, .int .i64 0, .int .i64 0, .int .i64 0] by rw [hU]; exact Bx.new w6 _ _)
                rw [← hU]
                refine hK.out _ _ (hHeld.trans (Kx.of bU)) (fun hHeld => ?_)
                clear hK K hU
                try simp only [Act.put, List.getElem_toArray, List.getElem_cons_succ, List.getElem_cons_zero, List.setIfInBounds_toArray, List.set_cons_zero, List.set_cons_succ]
                have NERS := hide (fun q hq => ((unhide RS).ob q hq).2)
                have NERE := hide (fun q hq => ((unhide RE).ob q hq).2)
                replace CU := hide ((unhide CU).same bU)
                replace KX := hide ((unhide KX).trans (Kx.of bU))
                replace BR := hide ((unhide BR).below bU)
                replace BS := hide ((unhide BS).below bU)
                replace RS := hide ((unhide RS).below bU)
                replace RL := hide ((unhide RL).below bU)
                replace RE := hide ((unhide RE).below bU)
                have szU1 : w6.heap.size < U1.heap.size := (unhide BXX).lt
                clear bU
                obtain ⟨pX, hpX⟩ : ∃ p, p = w6.heap.size := ⟨_, rfl⟩
                rw [← hpX] at BXX ⊢
                have hpX1 : pX ≤ w6.heap.size := by omega
                have hpX2 : w6.heap.size ≤ pX := by omega
                clear hpX
                have y1 := (unhide BXX).cv
                have y2 := (unhide BXX).fz
                have yl := (unhide BXX).lt
                have hpb : w.heap.size + 2 ≤ pX := by omega
                have F7 := hide (st7d (unhide BXX) (.int .i64 E.lg) (.slice aE E.S.length cE) (.bool E.r.kn) (.int .i64 E.r.la) (.int .i64 E.r.mi) (.int .i64 E.r.sm) (.int .i64 E.r.va))
                have bw := (unhide F7).2.below (base := w.heap.size) (by omega) (fun q hq => by omega)
                have bw2 := (unhide F7).2.below (base := w4.heap.size) (by omega) (fun q hq => by omega)
                replace CU := hide (cu_bel (unhide H00) (unhide CU) bw (Nat.le_refl _))
                replace KX := hide (kx_bel (unhide KX) bw (Nat.le_refl _))
                replace BR := hide (Bx.kq (unhide BR) (unhide F7).2 (by omega))
                replace BS := hide (Bx.kq (unhide BS) (unhide F7).2 (by omega))
                replace RS := hide ((unhide RS).ko (unhide F7).2 (fun q hq e => by have := unhide NERS q hq; omega))
                replace RL := hide ((unhide RL).kq (unhide F7).2 (fun q hq => by first | (left; omega) | (right; omega)))
                replace RE := hide ((unhide RE).ko (unhide F7).2 (fun q hq e => by have := unhide NERE q hq; omega))
                refine wpAnyH_ready (rs := [12]) (by kernel_rfl) (by simp) ?_
                refine (AllReadyH.cons rfl (fun K hK => ?_) AllReadyH.nil)
                go_simp
                refine hK.out _ _ (kx_bel hHeld bw2 (Nat.le_refl _)) (fun hHeld => ?_)
                clear hK K
                try simp only [Act.put, List.getElem_toArray, List.getElem_cons_succ, List.getElem_cons_zero, List.setIfInBounds_toArray, List.set_cons_zero, List.set_cons_succ]
                refine wpAnyH_take (i := 13) (v := ?_) rfl (by kernel_rfl) (by kernel_rfl) (by kernel_rfl) (fun _ _ _ h => h) (Or.inl ⟨by rfl, ?_⟩) hHeld ?_
                rotate_left
                · intro V hSw; go_simp; rfl
                try simp only [Act.put, List.getElem_toArray, List.getElem_cons_succ, List.getElem_cons_zero, List.setIfInBounds_toArray, List.set_cons_zero, List.set_cons_succ]
                refine wpAnyH_take (i := 14) (v := ?_) rfl (by kernel_rfl) (by kernel_rfl) (by kernel_rfl) (fun _ _ _ h => h) (Or.inl ⟨by rfl, ?_⟩) hHeld ?_
                rotate_left
                · intro V hSw; go_simp; rfl
                try simp only [Act.put, List.getElem_toArray, List.getElem_cons_succ, List.getElem_cons_zero, List.setIfInBounds_toArray, List.set_cons_zero, List.set_cons_succ]
                refine wpAnyH_take (i := 15) (v := ?_) rfl (by kernel_rfl) (by kernel_rfl) (by kernel_rfl) (fun _ _ _ h => h) (Or.inl ⟨by rfl, ?_⟩) hHeld ?_
                rotate_left
                · intro V hSw; go_simp; rfl
                try simp only [Act.put, List.getElem_toArray, List.getElem_cons_succ, List.getElem_cons_zero, List.setIfInBounds_toArray, List.set_cons_zero, List.set_cons_succ]
                refine wpAnyH_done (by kernel_rfl) ?_ _
                refine NoPanic.normal ?_
                clear hHeld y1 y2 bw bw2 BXX
                go_wp2_with fail
                go_meet
                exact ⟨pX, aE, cE, E, ok, rfl, rfl, hEl, hpb, (unhide F7).1, (unhide RE).mono (by omega), BR, BS, RS, RL, (unhide CU).mono (by omega), KX⟩
              · -- what wanders first
                go_simp
                obtain ⟨U2, hU⟩ : ∃ U, U = w5.alloc (.cells #[.int .i64 0, .slice none 0 0, .bool false, .int .i64 0, .int .i64 0, .int .i64 0, .int .i64 0] 27) := ⟨_, rfl⟩
                have bU : Below w5.heap.size w5 U2 := by rw [hU]; exact (Below.refl _ _).alloc (Nat.le_refl _) _
                have BXX := hide (show Bx U2 w5.heap.size [.int .i64 0, .slice none 0 0, .bool false, .int .i64 0, .int .i64 0, .int .i64 0, .int .i64 0] by rw [hU]; exact Bx.new w5 _ _)
                rw [← hU]
                refine hK.out _ _ (hHeld.trans (Kx.of bU)) (fun hHeld => ?_)
                clear hK K hU
                try simp only [Act.put, List.getElem_toArray, List.getElem_cons_succ, List.getElem_cons_zero, List.setIfInBounds_toArray, List.set_cons_zero, List.set_cons_succ]
                have NERS := hide (fun q hq => ((unhide RS).ob q hq).2)
                replace CU := hide ((unhide CU).same bU)
                replace KX := hide ((unhide KX).trans (Kx.of bU))
                replace BR := hide ((unhide BR).below bU)
                replace BS := hide ((unhide BS).below bU)
                replace RS := hide ((unhide RS).below bU)
                replace RL := hide ((unhide RL).below bU)
                have szU2 : w5.heap.size < U2.heap.size := (unhide BXX).lt
                clear bU
                obtain ⟨pX, hpX⟩ : ∃ p, p = w5.heap.size := ⟨_, rfl⟩
                rw [← hpX] at BXX ⊢
                have hpX1 : pX ≤ w5.heap.size := by omega
                have hpX2 : w5.heap.size ≤ pX := by omega
                clear hpX
                refine wpAnyH_ready (rs := [5]) (by kernel_rfl) (by simp) ?_
                refine (AllReadyH.cons rfl (fun K hK => ?_) AllReadyH.nil)
                go_simp
                go_at_call 6
                refine (specTAo D L nw _ (by omega) (by omega) (mem_rgO (unhide HB)) _ aS cS aL cL (unhide RS).ri.1.rd (unhide RL).rd).mono ?_
                rintro e w6 ⟨aE, cE, a8, c8, a9, c9, g0, g1, g2, rfl, ⟨_, _, _, _, _, _, b6⟩, oE⟩
                have hEl := ta_le D L nw r5 (taB D L nw r5)
                generalize taD D L nw r5 (taB D L nw r5) = E at *
                generalize taB D L nw r5 = ok at *
                generalize (taA D L ok).length = lA at *
                generalize (taL D L nw r5 ok).length = lL at *
                refine hK.out _ _ (hHeld.trans (Kx.of b6)) (fun hHeld => ?_)
                clear hK K
                try simp only [Act.put, List.getElem_toArray, List.getElem_cons_succ, List.getElem_cons_zero, List.setIfInBounds_toArray, List.set_cons_zero, List.set_cons_succ]
                replace CU := hide ((unhide CU).same b6)
                replace KX := hide ((unhide KX).trans (Kx.of b6))
                replace BR := hide ((unhide BR).below b6)
                replace BS := hide ((unhide BS).below b6)
                replace RS := hide ((unhide RS).below b6)
                replace RL := hide ((unhide RL).below b6)
                replace BXX := hide ((unhide BXX).below b6)
                have szw6 := b6.size
                have RE := hide oE
                clear oE b6
                refine wpAnyH_take (i := 6) (v := ?_) rfl (by kernel_rfl) (by kernel_rfl) (by kernel_rfl) (fun _ _ _ h => h) (Or.inl ⟨by rfl, ?_⟩) hHeld ?_
                rotate_left
                · intro V hSw; go_simp; rfl
                try simp only [Act.put, List.getElem_toArray, List.getElem_cons_succ, List.getElem_cons_zero, List.setIfInBounds_toArray, List.set_cons_zero, List.set_cons_succ]
                refine wpAnyH_take (i := 7) (v := ?_) rfl (by kernel_rfl) (by kernel_rfl) (by kernel_rfl) (fun _ _ _ h => h) (Or.inl ⟨by rfl, ?_⟩) hHeld ?_
                rotate_left
                · intro V hSw; go_simp; rfl
                try simp only [Act.put, List.getElem_toArray, List.getElem_cons_succ, List.getElem_cons_zero, List.setIfInBounds_toArray, List.set_cons_zero, List.set_cons_succ]
                refine wpAnyH_take (i := 8) (v := ?_) rfl (by kernel_rfl) (by kernel_rfl) (by kernel_rfl) (fun _ _ _ h => h) (Or.inl ⟨by rfl, ?_⟩) hHeld ?_
                rotate_left
                · intro V hSw; go_simp; rfl
                try simp only [Act.put, List.getElem_toArray, List.getElem_cons_succ, List.getElem_cons_zero, List.setIfInBounds_toArray, List.set_cons_zero, List.set_cons_succ]
                refine wpAnyH_take (i := 9) (v := ?_) rfl (by kernel_rfl) (by kernel_rfl) (by kernel_rfl) (fun _ _ _ h => h) (Or.inl ⟨by rfl, ?_⟩) hHeld ?_
                rotate_left
                · intro V hSw; go_simp; rfl
                try simp only [Act.put, List.getElem_toArray, List.getElem_cons_succ, List.getElem_cons_zero, List.setIfInBounds_toArray, List.set_cons_zero, List.set_cons_succ]
                refine wpAnyH_take (i := 10) (v := ?_) rfl (by kernel_rfl) (by kernel_rfl) (by kernel_rfl) (fun _ _ _ h => h) (Or.inl ⟨by rfl, ?_⟩) hHeld ?_
                rotate_left
                · intro V hSw; go_simp; rfl
                try simp only [Act.put, List.getElem_toArray, List.getElem_cons_succ, List.getElem_cons_zero, List.setIfInBounds_toArray, List.set_cons_zero, List.set_cons_succ]
                have y1 := (unhide BXX).cv
                have y2 := (unhide BXX).fz
                have yl := (unhide BXX).lt
                have hpb : w.heap.size + 2 ≤ pX := by omega
                have F7 := hide (st7d (unhide BXX) (.int .i64 E.lg) (.slice aE E.S.length cE) (.bool E.r.kn) (.int .i64 E.r.la) (.int .i64 E.r.mi) (.int .i64 E.r.sm) (.int .i64 E.r.va))
                have bw := (unhide F7).2.below (base := w.heap.size) (by omega) (fun q hq => by omega)
                have bw2 := (unhide F7).2.below (base := w4.heap.size) (by omega) (fun q hq => by omega)
                replace CU := hide (cu_bel (unhide H00) (unhide CU) bw (Nat.le_refl _))
                replace KX := hide (kx_bel (unhide KX) bw (Nat.le_refl _))
                replace BR := hide (Bx.kq (unhide BR) (unhide F7).2 (by omega))
                replace BS := hide (Bx.kq (unhide BS) (unhide F7).2 (by omega))
                replace RS := hide ((unhide RS).ko (unhide F7).2 (fun q hq e => by have := unhide NERS q hq; omega))
                replace RL := hide ((unhide RL).kq (unhide F7).2 (fun q hq => by first | (left; omega) | (right; omega)))
                have OBRE := fun q hq => (unhide RE).ob q hq
                replace RE := hide ((unhide RE).ko (unhide F7).2 (fun q hq e => by have := OBRE q hq; omega))
                clear OBRE
                refine wpAnyH_ready (rs := [12]) (by kernel_rfl) (by simp) ?_
                refine (AllReadyH.cons rfl (fun K hK => ?_) AllReadyH.nil)
                go_simp
                refine hK.out _ _ (kx_bel hHeld bw2 (Nat.le_refl _)) (fun hHeld => ?_)
                clear hK K
                try simp only [Act.put, List.getElem_toArray, List.getElem_cons_succ, List.getElem_cons_zero, List.setIfInBounds_toArray, List.set_cons_zero, List.set_cons_succ]
                refine wpAnyH_take (i := 13) (v := ?_) rfl (by kernel_rfl) (by kernel_rfl) (by kernel_rfl) (fun _ _ _ h => h) (Or.inl ⟨by rfl, ?_⟩) hHeld ?_
                rotate_left
                · intro V hSw; go_simp; rfl
                try simp only [Act.put, List.getElem_toArray, List.getElem_cons_succ, List.getElem_cons_zero, List.setIfInBounds_toArray, List.set_cons_zero, List.set_cons_succ]
                refine wpAnyH_take (i := 14) (v := ?_) rfl (by kernel_rfl) (by kernel_rfl) (by kernel_rfl) (fun _ _ _ h => h) (Or.inl ⟨by rfl, ?_⟩) hHeld ?_
                rotate_left
                · intro V hSw; go_simp; rfl
                try simp only [Act.put, List.getElem_toArray, List.getElem_cons_succ, List.getElem_cons_zero, List.setIfInBounds_toArray, List.set_cons_zero, List.set_cons_succ]
                refine wpAnyH_take (i := 15) (v := ?_) rfl (by kernel_rfl) (by kernel_rfl) (by kernel_rfl) (fun _ _ _ h => h) (Or.inl ⟨by rfl, ?_⟩) hHeld ?_
                rotate_left
                · intro V hSw; go_simp; rfl
                try simp only [Act.put, List.getElem_toArray, List.getElem_cons_succ, List.getElem_cons_zero, List.setIfInBounds_toArray, List.set_cons_zero, List.set_cons_succ]
                refine wpAnyH_done (by kernel_rfl) ?_ _
                refine NoPanic.normal ?_
                clear hHeld y1 y2 bw bw2 BXX
                go_wp2_with fail
                go_meet
                exact ⟨pX, aE, cE, E, ok, rfl, rfl, hEl, hpb, (unhide F7).1, (unhide RE).mono (by omega), BR, BS, RS, RL, (unhide CU).mono (by omega), KX⟩
            · -- what wanders first
              go_simp
              obtain ⟨U3, hU⟩ : ∃ U, U = U0.alloc (.cells #[.int .i64 0, .slice none 0 0, .bool false, .int .i64 0, .int .i64 0, .int .i64 0, .int .i64 0] 27) := ⟨_, rfl⟩
              have bU : Below U0.heap.size U0 U3 := by rw [hU]; exact (Below.refl _ _).alloc (Nat.le_refl _) _
              have BXX := hide (show Bx U3 U0.heap.size [.int .i64 0, .slice none 0 0, .bool false, .int .i64 0, .int .i64 0, .int .i64 0, .int .i64 0] by rw [hU]; exact Bx.new U0 _ _)
              rw [← hU]
              refine hK.out _ _ (hHeld.trans (Kx.of bU)) (fun hHeld => ?_)
              clear hK K hU
              try simp only [Act.put, List.getElem_toArray, List.getElem_cons_succ, List.getElem_cons_zero, List.setIfInBounds_toArray, List.set_cons_zero, List.set_cons_succ]
              have NERS := hide (fun q hq => ((unhide RS).ob q hq).2)
              replace CU := hide ((unhide CU).same bU)
              replace KX := hide ((unhide KX).trans (Kx.of bU))
              replace BR := hide ((unhide BR).below bU)
              replace BS := hide ((unhide BS).below bU)
              replace RS := hide ((unhide RS).below bU)
              replace RL := hide ((unhide RL).below bU)
              have szU3 : U0.heap.size < U3.heap.size := (unhide BXX).lt
              clear bU
              obtain ⟨pX, hpX⟩ : ∃ p, p = U0.heap.size := ⟨_, rfl⟩
              rw [← hpX] at BXX ⊢
              have hpX1 : pX ≤ U0.heap.size := by omega
              have hpX2 : U0.heap.size ≤ pX := by omega
              clear hpX
              refine wpAnyH_ready (rs := [4]) (by kernel_rfl) (by simp) ?_
              refine (AllReadyH.cons rfl (fun K hK => ?_) AllReadyH.nil)
              go_simp
              go_at_call 12
              refine (pickN cb a N cap (P + 2 + 30 * j + 2 + 2 + 22) 9 _ hN (by omega) (by omega) (by omega) (unhide CU)).mono ?_
              rintro e w5 ⟨r5, rfl, qr5, u5, k5⟩
              refine hK.out _ _ (hHeld.trans k5) (fun hHeld => ?_)
              clear hK K
              try simp only [Act.put, List.getElem_toArray, List.getElem_cons_succ, List.getElem_cons_zero, List.setIfInBounds_toArray, List.set_cons_zero, List.set_cons_succ]
              replace CU := hide u5
              replace KX := hide ((unhide KX).trans k5)
              replace BR := hide (bx_kx (unhide BR) k5 (by omega))
              replace BS := hide (bx_kx (unhide BS) k5 (by omega))
              replace RS := hide ((unhide RS).kq (kx_kq k5) (fun q hq => by omega))
              replace RL := hide ((unhide RL).kq (kx_kq k5) (fun q hq => Or.inl (by omega)))
              replace BXX := hide (bx_kx (unhide BXX) k5 (by omega))
              have szw5 := k5.size
              clear u5 k5
              refine wpAnyH_ready (rs := [5]) (by kernel_rfl) (by simp) ?_
              refine (AllReadyH.cons rfl (fun K hK => ?_) AllReadyH.nil)
              go_simp
              go_at_call 6
              refine (specTAo D L nw _ (by omega) (by omega) (mem_rgO (unhide HB)) _ aS cS aL cL (unhide RS).ri.1.rd (unhide RL).rd).mono ?_
              rintro e w6 ⟨aE, cE, a8, c8, a9, c9, g0, g1, g2, rfl, ⟨_, _, _, _, _, _, b6⟩, oE⟩
              have hEl := ta_le D L nw r5 (taB D L nw r5)
              generalize taD D L nw r5 (taB D L nw r5) = E at *
              generalize taB D L nw r5 = ok at *
              generalize (taA D L ok).length = lA at *
              generalize (taL D L nw r5 ok).length = lL at *
              refine hK.out _ _ (hHeld.trans (Kx.of b6)) (fun hHeld => ?_)
              clear hK K
              try simp only [Act.put, List.getElem_toArray, List.getElem_cons_succ, List.getElem_cons_zero, List.setIfInBounds_toArray, List.set_cons_zero, List.set_cons_succ]
              replace CU := hide ((unhide CU).same b6)
              replace KX := hide ((unhide KX).trans (Kx.of b6))
              replace BR := hide ((unhide BR).below b6)
              replace BS := hide ((unhide BS).below b6)
              replace RS := hide ((unhide RS).below b6)
              replace RL := hide ((unhide RL).below b6)
              replace BXX := hide ((unhide BXX).below b6)
              have szw6 := b6.size
              have RE := hide oE
              clear oE b6
              refine wpAnyH_take (i := 6) (v := ?_) rfl (by kernel_rfl) (by kernel_rfl) (by kernel_rfl) (fun _ _ _ h => h) (Or.inl ⟨by rfl, ?_⟩) hHeld ?_
              rotate_left
              · intro V hSw; go_simp; rfl
              try simp only [Act.put, List.getElem_toArray, List.getElem_cons_succ, List.getElem_cons_zero, List.setIfInBounds_toArray, List.set_cons_zero, List.set_cons_succ]
              refine wpAnyH_take (i := 7) (v := ?_) rfl (by kernel_rfl) (by kernel_rfl) (by kernel_rfl) (fun _ _ _ h => h) (Or.inl ⟨by rfl, ?_⟩) hHeld ?_
              rotate_left
              · intro V hSw; go_simp; rfl
              try simp only [Act.put, List.getElem_toArray, List.getElem_cons_succ, List.getElem_cons_zero, List.setIfInBounds_toArray, List.set_cons_zero, List.set_cons_succ]
              refine wpAnyH_take (i := 8) (v := ?_) rfl (by kernel_rfl) (by kernel_rfl) (by kernel_rfl) (fun _ _ _ h => h) (Or.inl ⟨by rfl, ?_⟩) hHeld ?_
              rotate_left
              · intro V hSw; go_simp; rfl
              try simp only [Act.put, List.getElem_toArray, List.getElem_cons_succ, List.getElem_cons_zero, List.setIfInBounds_toArray, List.set_cons_zero, List.set_cons_succ]
              refine wpAnyH_take (i := 9) (v := ?_) rfl (by kernel_rfl) (by kernel_rfl) (by kernel_rfl) (fun _ _ _ h => h) (Or.inl ⟨by rfl, ?_⟩) hHeld ?_
              rotate_left
              · intro V hSw; go_simp; rfl
              try simp only [Act.put, List.getElem_toArray, List.getElem_cons_succ, List.getElem_cons_zero, List.setIfInBounds_toArray, List.set_cons_zero, List.set_cons_succ]
              refine wpAnyH_take (i := 10) (v := ?_) rfl (by kernel_rfl) (by kernel_rfl) (by kernel_rfl) (fun _ _ _ h => h) (Or.inl ⟨by rfl, ?_⟩) hHeld ?_
              rotate_left
              · intro V hSw; go_simp; rfl
              try simp only [Act.put, List.getElem_toArray, List.getElem_cons_succ, List.getElem_cons_zero, List.setIfInBounds_toArray, List.set_cons_zero, List.set_cons_succ]
              have y1 := (unhide BXX).cv
              have y2 := (unhide BXX).fz
              have yl := (unhide BXX).lt
              have hpb : w.heap.size + 2 ≤ pX := by omega
              have F7 := hide (st7d (unhide BXX) (.int .i64 E.lg) (.slice aE E.S.length cE) (.bool E.r.kn) (.int .i64 E.r.la) (.int .i64 E.r.mi) (.int .i64 E.r.sm) (.int .i64 E.r.va))
              have bw := (unhide F7).2.below (base := w.heap.size) (by omega) (fun q hq => by omega)
              have bw2 := (unhide F7).2.below (base := w4.heap.size) (by omega) (fun q hq => by omega)
              replace CU := hide (cu_bel (unhide H00) (unhide CU) bw (Nat.le_refl _))
              replace KX := hide (kx_bel (unhide KX) bw (Nat.le_refl _))
              replace BR := hide (Bx.kq (unhide BR) (unhide F7).2 (by omega))
              replace BS := hide (Bx.kq (unhide BS) (unhide F7).2 (by omega))
              replace RS := hide ((unhide RS).ko (unhide F7).2 (fun q hq e => by have := unhide NERS q hq; omega))
              replace RL := hide ((unhide RL).kq (unhide F7).2 (fun q hq => by first | (left; omega) | (right; omega)))
              have OBRE := fun q hq => (unhide RE).ob q hq
              replace RE := hide ((unhide RE).ko (unhide F7).2 (fun q hq e => by have := OBRE q hq; omega))
              clear OBRE
              refine wpAnyH_ready (rs := [12]) (by kernel_rfl) (by simp) ?_
              refine (AllReadyH.cons rfl (fun K hK => ?_) AllReadyH.nil)
              go_simp
              refine hK.out _ _ (kx_bel hHeld bw2 (Nat.le_refl _)) (fun hHeld => ?_)
              clear hK K
              try simp only [Act.put, List.getElem_toArray, List.getElem_cons_succ, List.getElem_cons_zero, List.setIfInBounds_toArray, List.set_cons_zero, List.set_cons_succ]
              refine wpAnyH_take (i := 13) (v := ?_) rfl (by kernel_rfl) (by kernel_rfl) (by kernel_rfl) (fun _ _ _ h => h) (Or.inl ⟨by rfl, ?_⟩) hHeld ?_
              rotate_left
              · intro V hSw; go_simp; rfl
              try simp only [Act.put, List.getElem_toArray, List.getElem_cons_succ, List.getElem_cons_zero, List.setIfInBounds_toArray, List.set_cons_zero, List.set_cons_succ]
              refine wpAnyH_take (i := 14) (v := ?_) rfl (by kernel_rfl) (by kernel_rfl) (by kernel_rfl) (fun _ _ _ h => h) (Or.inl ⟨by rfl, ?_⟩) hHeld ?_
              rotate_left
              · intro V hSw; go_simp; rfl
              try simp only [Act.put, List.getElem_toArray, List.getElem_cons_succ, List.getElem_cons_zero, List.setIfInBounds_toArray, List.set_cons_zero, List.set_cons_succ]
              refine wpAnyH_take (i := 15) (v := ?_) rfl (by kernel_rfl) (by kernel_rfl) (by kernel_rfl) (fun _ _ _ h => h) (Or.inl ⟨by rfl, ?_⟩) hHeld ?_
              rotate_left
              · intro V hSw; go_simp; rfl
              try simp only [Act.put, List.getElem_toArray, List.getElem_cons_succ, List.getElem_cons_zero, List.setIfInBounds_toArray, List.set_cons_zero, List.set_cons_succ]
              refine wpAnyH_done (by kernel_rfl) ?_ _
              refine NoPanic.normal ?_
              clear hHeld y1 y2 bw bw2 BXX
              go_wp2_with fail
              go_meet
              exact ⟨pX, aE, cE, E, ok, rfl, rfl, hEl, hpb, (unhide F7).1, (unhide RE).mono (by omega), BR, BS, RS, RL, (unhide CU).mono (by omega), KX⟩
          case rest =>
          obtain ⟨pX, aE, cE, E, ok, rfl, rfl, hEl, hpb, BE, RE, BR, BS, RS, RL, CU, KX⟩ := hcut
          obtain ⟨w7, hV⟩ : ∃ V, V = wc := ⟨_, rfl⟩
          rw [← hV] at BE RE BR BS RS RL CU KX ⊢
          clear hV
          cases ok with
          | false =>
            go_wp2
            exact ⟨⟨j + 1, n, nw, nx, D, aS, cS, by omega, rfl, rfl, by go_num, by omega, BR, BS, RS, (unhide CU).mono (by omega), KX⟩, by simp [intOf]⟩
          | true =>
            rcases unhide RL with h9 | ⟨g9, rfl, hg9, hG⟩
            · rw [h9] at hl0; exact absurd hl0 (Nat.not_lt_zero _)
            have F7 := hide (st7d (unhide BS) (.int .i64 E.lg) (.slice aE E.S.length cE) (.bool E.r.kn) (.int .i64 E.r.la) (.int .i64 E.r.mi) (.int .i64 E.r.sm) (.int .i64 E.r.va))
            obtain ⟨V, hV⟩ : ∃ V, V = ((((((w7.setCell ⟨w.heap.size + 1, 0, none⟩ (.int .i64 E.lg)).setCell ⟨w.heap.size + 1, 1, none⟩ (.slice aE E.S.length cE)).setCell ⟨w.heap.size + 1, 2, none⟩ (.bool E.r.kn)).setCell ⟨w.heap.size + 1, 3, none⟩ (.int .i64 E.r.la)).setCell ⟨w.heap.size + 1, 4, none⟩ (.int .i64 E.r.mi)).setCell ⟨w.heap.size + 1, 5, none⟩ (.int .i64 E.r.sm)).setCell ⟨w.heap.size + 1, 6, none⟩ (.int .i64 E.r.va) := ⟨_, rfl⟩
            rw [← hV] at F7
            have bw := (unhide F7).2.below (base := w.heap.size) (by have := (unhide KX).size; omega) (fun q hq => by omega)
            have xc := (unhide BE).cv
            have xl := (unhide BE).lt
            have sc := (unhide BS).cv
            have sf := (unhide BS).fz
            have sl := (unhide BS).lt
            have BR' := hide (Bx.kq (unhide BR) (unhide F7).2 (by omega))
            have RE' := hide ((unhide RE).kq (unhide F7).2 (fun q hq => by omega))
            have CU' := hide (cu_bel (unhide H00) (unhide CU) bw (Nat.le_refl _))
            have KX' := hide (kx_bel (unhide KX) bw (Nat.le_refl _))
            have lc : V.cell? ⟨g9, 1, none⟩ = some (.int .i64 (gt rangeK L 0).f1) := by
              rw [World.cell?_of_block (a := ⟨g9, 1, none⟩) ((unhide F7).2.block g9 hG.lt (by omega)), hG.c 1 (by change 1 < L.length * 2; omega)]
              exact congrArg some (range_c1 L 0)
            have gl : g9 < V.heap.size := Nat.lt_of_lt_of_le hG.lt (unhide F7).2.size
            have BS' := hide (unhide F7).1
            have HV := hide hV
            clear hV bw hG F7 BE RE BR BS RS RL CU KX
            go_upto_region 14 with fail
            rw [← unhide HV]
            clear HV xc xl sc sf sl
            go_wp2
            exact ⟨⟨j + 1, n, nw, _, E, aE, cE, by omega, rfl, rfl, by go_num, by omega, BR', BS', RE', (unhide CU').mono (by omega), KX'⟩, by simp [intOf]⟩
        · have hl1 : ¬ (0 : Int) < (L.length : Int) := by omega
          go_wp2
          exact ⟨⟨j + 1, n, nw, nx, D, aS, cS, by omega, rfl, rfl, by go_num, by omega, BR, BS, RS, (unhide CU).mono (by omega), KX⟩, by simp [intOf]⟩
      | false =>
        go_upto_region 15 with fail
        go_cut [13, 14] (fun s13 s14 wx => ∃ (pX : Nat) (aE : Option Addr) (cE : Nat) (E : SpaceD) (ok : Bool), s13 = .pointer (some ⟨pX, 0, none⟩) ∧ s14 = .bool ok ∧ E.S.length ≤ D.S.length + 1 ∧ w.heap.size + 2 ≤ pX ∧ Hid (Bx wx pX (spaceC E aE cE)) ∧ Hid (Ro sentK 37 (w.heap.size + 2) wx (.slice aE E.S.length cE) E.S) ∧ Hid (Bx wx w.heap.size spaceZ) ∧ Hid (Bx wx (w.heap.size + 1) (spaceC D aS cS)) ∧ Hid (Ro sentK 37 (w.heap.size + 2) wx (.slice aS D.S.length cS) D.S) ∧ Hid (Cu wx cb a N cap (P + 2 + 30 * j + 26)) ∧ Hid (Kx cb w wx))
        case first =>
          refine wp_region_noPanic ?_
          refine wp_region_held_drew (S := fun V => Kx cb w3 V) (by kernel_rfl) (Kx.refl cb w3).drew (fun hHeld => ?_)
          refine wpAnyH_take (i := 0) (v := ?_) rfl (by kernel_rfl) (by kernel_rfl) (by kernel_rfl) (fun _ _ _ h => h) (Or.inl ⟨by rfl, ?_⟩) hHeld ?_
          rotate_left
          · intro V hSw; have y1 := (bx_kx (unhide BS) hSw (by omega)).cv; have y2 := (bx_kx (unhide BS) hSw (by omega)).lt; go_simp; rfl
          try simp only [Act.put, List.getElem_toArray, List.getElem_cons_zero, List.setIfInBounds_toArray, List.set_cons_zero, List.set_cons_succ]
          refine wpAnyH_take (i := 1) (v := ?_) rfl (by kernel_rfl) (by kernel_rfl) (by kernel_rfl) (fun _ _ _ h => h) (Or.inl ⟨by rfl, ?_⟩) hHeld ?_
          rotate_left
          · intro V hSw; go_simp; rfl
          try simp only [Act.put, List.getElem_toArray, List.getElem_cons_succ, List.getElem_cons_zero, List.setIfInBounds_toArray, List.set_cons_zero, List.set_cons_succ]
          refine wpAnyH_take (i := 2) (v := ?_) rfl (by kernel_rfl) (by kernel_rfl) (by kernel_rfl) (fun _ _ _ h => h) (Or.inl ⟨by rfl, ?_⟩) hHeld ?_
          rotate_left
          · intro V hSw; go_simp; rfl
          try simp only [Act.put, List.getElem_toArray, List.getElem_cons_succ, List.getElem_cons_zero, List.setIfInBounds_toArray, List.set_cons_zero, List.set_cons_succ]
          refine wpAnyH_take (i := 3) (v := ?_) rfl (by kernel_rfl) (by kernel_rfl) (by kernel_rfl) (fun _ _ _ h => h) (Or.inl ⟨by rfl, ?_⟩) hHeld ?_
          rotate_left
          · intro V hSw; go_simp; rfl
          try simp only [Act.put, List.getElem_toArray, List.getElem_cons_succ, List.getElem_cons_zero, List.setIfInBounds_toArray, List.set_cons_zero, List.set_cons_succ]
          obtain ⟨U0, hU0⟩ : ∃ U, U = w3.drew := ⟨_, rfl⟩
          rw [← hU0] at hHeld ⊢
          have b0 : Below w3.heap.size w3 U0 := by rw [hU0]; exact (Below.refl _ _).drew
          replace CU := hide ((unhide CU).same b0)
          replace KX := hide ((unhide KX).trans (Kx.of b0))
          replace BR := hide ((unhide BR).below b0)
          replace BS := hide ((unhide BS).below b0)
          replace RS := hide ((unhide RS).below b0)
          have szU0 := b0.size
          clear hU0 b0
          refine wpAnyH_ready (rs := [4, 10]) (by kernel_rfl) (by simp) ?_
          refine (AllReadyH.cons rfl (fun K hK => ?_) (AllReadyH.cons rfl (fun K hK => ?_) AllReadyH.nil))
          · -- the call first
            go_simp
            go_at_call 12
            refine (pickN cb a N cap (P + 2 + 30 * j + 2 + 2) 1200 _ hN (by omega) (by omega) (by omega) (unhide CU)).mono ?_
            rintro e w5 ⟨r5, rfl, qr5, u5, k5⟩
            refine hK.out _ _ (hHeld.trans k5) (fun hHeld => ?_)
            clear hK K
            try simp only [Act.put, List.getElem_toArray, List.getElem_cons_succ, List.getElem_cons_zero, List.setIfInBounds_toArray, List.set_cons_zero, List.set_cons_succ]
            replace CU := hide u5
            replace KX := hide ((unhide KX).trans k5)
            replace BR := hide (bx_kx (unhide BR) k5 (by omega))
            replace BS := hide (bx_kx (unhide BS) k5 (by omega))
            replace RS := hide ((unhide RS).kq (kx_kq k5) (fun q hq => by omega))
            have szw5 := k5.size
            clear u5 k5
            refine wpAnyH_take (i := 5) (v := ?_) rfl (by kernel_rfl) (by kernel_rfl) (by kernel_rfl) (fun _ _ _ h => h) (Or.inl ⟨by rfl, ?_⟩) hHeld ?_
            rotate_left
            · intro V hSw; go_simp; rfl
            try simp only [Act.put, List.getElem_toArray, List.getElem_cons_succ, List.getElem_cons_zero, List.setIfInBounds_toArray, List.set_cons_zero, List.set_cons_succ]
            refine wpAnyH_ready (rs := [6, 10]) (by kernel_rfl) (by simp) ?_
            refine (AllReadyH.cons rfl (fun K hK => ?_) (AllReadyH.cons rfl (fun K hK => ?_) AllReadyH.nil))
            · -- the call first
              go_simp
              go_at_call 35
              refine (specSNo D ⟨nx, nw, r5⟩ (by omega) _ aS cS (unhide RS).ri.1.rd).mono ?_
              rintro e w6 ⟨aE, cE, rfl, oE, b6⟩
              have hEl := sn_le D ⟨nx, nw, r5⟩ (snB D ⟨nx, nw, r5⟩)
              generalize snD D ⟨nx, nw, r5⟩ (snB D ⟨nx, nw, r5⟩) = E at *
              generalize snB D ⟨nx, nw, r5⟩ = ok at *
              refine hK.out _ _ (hHeld.trans (Kx.of b6)) (fun hHeld => ?_)
              clear hK K
              try simp only [Act.put, List.getElem_toArray, List.getElem_cons_succ, List.getElem_cons_zero, List.setIfInBounds_toArray, List.set_cons_zero, List.set_cons_succ]
              replace CU := hide ((unhide CU).same b6)
              replace KX := hide ((unhide KX).trans (Kx.of b6))
              replace BR := hide ((unhide BR).below b6)
              replace BS := hide ((unhide BS).below b6)
              replace RS := hide ((unhide RS).below b6)
              have szw6 := b6.size
              have RE := hide oE
              clear oE b6
              refine wpAnyH_take (i := 7) (v := ?_) rfl (by kernel_rfl) (by kernel_rfl) (by kernel_rfl) (fun _ _ _ h => h) (Or.inl ⟨by rfl, ?_⟩) hHeld ?_
              rotate_left
              · intro V hSw; go_simp; rfl
              try simp only [Act.put, List.getElem_toArray, List.getElem_cons_succ, List.getElem_cons_zero, List.setIfInBounds_toArray, List.set_cons_zero, List.set_cons_succ]
              refine wpAnyH_take (i := 8) (v := ?_) rfl (by kernel_rfl) (by kernel_rfl) (by kernel_rfl) (fun _ _ _ h => h) (Or.inl ⟨by rfl, ?_⟩) hHeld ?_
              rotate_left
              · intro V hSw; go_simp; rfl
              try simp only [Act.put, List.getElem_toArray, List.getElem_cons_succ, List.getElem_cons_zero, List.setIfInBounds_toArray, List.set_cons_zero, List.set_cons_succ]
              refine wpAnyH_take (i := 9) (v := ?_) rfl (by kernel_rfl) (by kernel_rfl) (by kernel_rfl) (fun _ _ _ h => h) (Or.inl ⟨by rfl, ?_⟩) hHeld ?_
              rotate_left
              · intro V hSw; go_simp; rfl
              try simp only [Act.put, List.getElem_toArray, List.getElem_cons_succ, List.getElem_cons_zero, List.setIfInBounds_toArray, List.set_cons_zero, List.set_cons_succ]
              refine wpAnyH_ready (rs := [10]) (by kernel_rfl) (by simp) ?_
              refine (AllReadyH.cons rfl (fun K hK => ?_) AllReadyH.nil)
              go_simp
              obtain ⟨U4, hU⟩ : ∃ U, U = w6.alloc (.cells #[.int .i64 0, .slice none 0 0, .bool false, .int .i64 0, .int .i64 0, .int .i64 0, .int .i64 0] 27) := ⟨_, rfl⟩
              have bU : Below w6.heap.size w6 U4 := by rw [hU]; exact (Below.refl _ _).alloc (Nat.le_refl _) _
              have BXX := hide (show Bx U4 w6.heap.size [.int .i64 0, .slice none 0 0, .bool false, .int .i64 0, .int .i64 0, .int .i64 0, .int .i64 0] by rw [hU]; exact Bx.new w6 _ _)
              rw [← hU]
              refine hK.out _ _ (hHeld.trans (Kx.of bU)) (fun hHeld => ?_)
              clear hK K hU
              try simp only [Act.put, List.getElem_toArray, List.getElem_cons_succ, List.getElem_cons_zero, List.setIfInBounds_toArray, List.set_cons_zero, List.set_cons_succ]
              have NERS := hide (fun q hq => ((unhide RS).ob q hq).2)
              have NERE := hide (fun q hq => ((unhide RE).ob q hq).2)
              replace CU := hide ((unhide CU).same bU)
              replace KX := hide ((unhide KX).trans (Kx.of bU))
              replace BR := hide ((unhide BR).below bU)
              replace BS := hide ((unhide BS).below bU)
              replace RS := hide ((unhide RS).below bU)
              replace RE := hide ((unhide RE).below bU)
              have szU4 : w6.heap.size < U4.heap.size := (unhide BXX).lt
              clear bU
              obtain ⟨pX, hpX⟩ : ∃ p, p = w6.heap.size := ⟨_, rfl⟩
              rw [← hpX] at BXX ⊢
              have hpX1 : pX ≤ w6.heap.size := by omega
              have hpX2 : w6.heap.size ≤ pX := by omega
              clear hpX
              have y1 := (unhide BXX).cv
              have y2 := (unhide BXX).fz
              have yl := (unhide BXX).lt
              have hpb : w.heap.size + 2 ≤ pX := by omega
              have F7 := hide (st7d (unhide BXX) (.int .i64 E.lg) (.slice aE E.S.length cE) (.bool E.r.kn) (.int .i64 E.r.la) (.int .i64 E.r.mi) (.int .i64 E.r.sm) (.int .i64 E.r.va))
              have bw := (unhide F7).2.below (base := w.heap.size) (by omega) (fun q hq => by omega)
              have bw2 := (unhide F7).2.below (base := w3.heap.size) (by omega) (fun q hq => by omega)
              replace CU := hide (cu_bel (unhide H00) (unhide CU) bw (Nat.le_refl _))
              replace KX := hide (kx_bel (unhide KX) bw (Nat.le_refl _))
              replace BR := hide (Bx.kq (unhide BR) (unhide F7).2 (by omega))
              replace BS := hide (Bx.kq (unhide BS) (unhide F7).2 (by omega))
              replace RS := hide ((unhide RS).ko (unhide F7).2 (fun q hq e => by have := unhide NERS q hq; omega))
              replace RE := hide ((unhide RE).ko (unhide F7).2 (fun q hq e => by have := unhide NERE q hq; omega))
              refine wpAnyH_ready (rs := [11]) (by kernel_rfl) (by simp) ?_
              refine (AllReadyH.cons rfl (fun K hK => ?_) AllReadyH.nil)
              go_simp
              refine hK.out _ _ (kx_bel hHeld bw2 (Nat.le_refl _)) (fun hHeld => ?_)
              clear hK K
              try simp only [Act.put, List.getElem_toArray, List.getElem_cons_succ, List.getElem_cons_zero, List.setIfInBounds_toArray, List.set_cons_zero, List.set_cons_succ]
              refine wpAnyH_take (i := 12) (v := ?_) rfl (by kernel_rfl) (by kernel_rfl) (by kernel_rfl) (fun _ _ _ h => h) (Or.inl ⟨by rfl, ?_⟩) hHeld ?_
              rotate_left
              · intro V hSw; go_simp; rfl
              try simp only [Act.put, List.getElem_toArray, List.getElem_cons_succ, List.getElem_cons_zero, List.setIfInBounds_toArray, List.set_cons_zero, List.set_cons_succ]
              refine wpAnyH_done (by kernel_rfl) ?_ _
              refine NoPanic.normal ?_
              clear hHeld y1 y2 bw bw2 BXX
              go_wp2_with fail
              go_meet
              exact ⟨pX, aE, cE, E, ok, rfl, rfl, hEl, hpb, (unhide F7).1, (unhide RE).mono (by omega), BR, BS, RS, (unhide CU).mono (by omega), KX⟩
            · -- what wanders first
              go_simp
              obtain ⟨U5, hU⟩ : ∃ U, U = w5.alloc (.cells #[.int .i64 0, .slice none 0 0, .bool false, .int .i64 0, .int .i64 0, .int .i64 0, .int .i64 0] 27) := ⟨_, rfl⟩
              have bU : Below w5.heap.size w5 U5 := by rw [hU]; exact (Below.refl _ _).alloc (Nat.le_refl _) _
              have BXX := hide (show Bx U5 w5.heap.size [.int .i64 0, .slice none 0 0, .bool false, .int .i64 0, .int .i64 0, .int .i64 0, .int .i64 0] by rw [hU]; exact Bx.new w5 _ _)
              rw [← hU]
              refine hK.out _ _ (hHeld.trans (Kx.of bU)) (fun hHeld => ?_)
              clear hK K hU
              try simp only [Act.put, List.getElem_toArray, List.getElem_cons_succ, List.getElem_cons_zero, List.setIfInBounds_toArray, List.set_cons_zero, List.set_cons_succ]
              have NERS := hide (fun q hq => ((unhide RS).ob q hq).2)
              replace CU := hide ((unhide CU).same bU)
              replace KX := hide ((unhide KX).trans (Kx.of bU))
              replace BR := hide ((unhide BR).below bU)
              replace BS := hide ((unhide BS).below bU)
              replace RS := hide ((unhide RS).below bU)
              have szU5 : w5.heap.size < U5.heap.size := (unhide BXX).lt
              clear bU
              obtain ⟨pX, hpX⟩ : ∃ p, p = w5.heap.size := ⟨_, rfl⟩
              rw [← hpX] at BXX ⊢
              have hpX1 : pX ≤ w5.heap.size := by omega
              have hpX2 : w5.heap.size ≤ pX := by omega
              clear hpX
              refine wpAnyH_ready (rs := [6]) (by kernel_rfl) (by simp) ?_
              refine (AllReadyH.cons rfl (fun K hK => ?_) AllReadyH.nil)
              go_simp
              go_at_call 35
              refine (specSNo D ⟨nx, nw, r5⟩ (by omega) _ aS cS (unhide RS).ri.1.rd).mono ?_
              rintro e w6 ⟨aE, cE, rfl, oE, b6⟩
              have hEl := sn_le D ⟨nx, nw, r5⟩ (snB D ⟨nx, nw, r5⟩)
              generalize snD D ⟨nx, nw, r5⟩ (snB D ⟨nx, nw, r5⟩) = E at *
              generalize snB D ⟨nx, nw, r5⟩ = ok at *
              refine hK.out _ _ (hHeld.trans (Kx.of b6)) (fun hHeld => ?_)
              clear hK K
              try simp only [Act.put, List.getElem_toArray, List.getElem_cons_succ, List.getElem_cons_zero, List.setIfInBounds_toArray, List.set_cons_zero, List.set_cons_succ]
              replace CU := hide ((unhide CU).same b6)
              replace KX := hide ((unhide KX).trans (Kx.of b6))
              replace BR := hide ((unhide BR).below b6)
              replace BS := hide ((unhide BS).below b6)
              replace RS := hide ((unhide RS).below b6)
              replace BXX := hide ((unhide BXX).below b6)
              have szw6 := b6.size
              have RE := hide oE
              clear oE b6
              refine wpAnyH_take (i := 7) (v := ?_) rfl (by kernel_rfl) (by kernel_rfl) (by kernel_rfl) (fun _ _ _ h => h) (Or.inl ⟨by rfl, ?_⟩) hHeld ?_
              rotate_left
              · intro V hSw; go_simp; rfl
              try simp only [Act.put, List.getElem_toArray, List.getElem_cons_succ, List.getElem_cons_zero, List.setIfInBounds_toArray, List.set_cons_zero, List.set_cons_succ]
              refine wpAnyH_take (i := 8) (v := ?_) rfl (by kernel_rfl) (by kernel_rfl) (by kernel_rfl) (fun _ _ _ h => h) (Or.inl ⟨by rfl, ?_⟩) hHeld ?_
              rotate_left
              · intro V hSw; go_simp; rfl
              try simp only [Act.put, List.getElem_toArray, List.getElem_cons_succ, List.getElem_cons_zero, List.setIfInBounds_toArray, List.set_cons_zero, List.set_cons_succ]
              refine wpAnyH_take (i := 9) (v := ?_) rfl (by kernel_rfl) (by kernel_rfl) (by kernel_rfl) (fun _ _ _ h => h) (Or.inl ⟨by rfl, ?_⟩) hHeld ?_
              rotate_left
              · intro V hSw; go_simp; rfl
              try simp only [Act.put, List.getElem_toArray, List.getElem_cons_succ, List.getElem_cons_zero, List.setIfInBounds_toArray, List.set_cons_zero, List.set_cons_succ]
              have y1 := (unhide BXX).cv
              have y2 := (unhide BXX).fz
              have yl := (unhide BXX).lt
              have hpb : w.heap.size + 2 ≤ pX := by omega
              have F7 := hide (st7d (unhide BXX) (.int .i64 E.lg) (.slice aE E.S.length cE) (.bool E.r.kn) (.int .i64 E.r.la) (.int .i64 E.r.mi) (.int .i64 E.r.sm) (.int .i64 E.r.va))
              have bw := (unhide F7).2.below (base := w.heap.size) (by omega) (fun q hq => by omega)
              have bw2 := (unhide F7).2.below (base := w3.heap.size) (by omega) (fun q hq => by omega)
              replace CU := hide (cu_bel (unhide H00) (unhide CU) bw (Nat.le_refl _))
              replace KX := hide (kx_bel (unhide KX) bw (Nat.le_refl _))
              replace BR := hide (Bx.kq (unhide BR) (unhide F7).2 (by omega))
              replace BS := hide (Bx.kq (unhide BS) (unhide F7).2 (by omega))
              replace RS := hide ((unhide RS).ko (unhide F7).2 (fun q hq e => by have := unhide NERS q hq; omega))
              have OBRE := fun q hq => (unhide RE).ob q hq
              replace RE := hide ((unhide RE).ko (unhide F7).2 (fun q hq e => by have := OBRE q hq; omega))
              clear OBRE
              refine wpAnyH_ready (rs := [11]) (by kernel_rfl) (by simp) ?_
              refine (AllReadyH.cons rfl (fun K hK => ?_) AllReadyH.nil)
              go_simp
              refine hK.out _ _ (kx_bel hHeld bw2 (Nat.le_refl _)) (fun hHeld => ?_)
              clear hK K
              try simp only [Act.put, List.getElem_toArray, List.getElem_cons_succ, List.getElem_cons_zero, List.setIfInBounds_toArray, List.set_cons_zero, List.set_cons_succ]
              refine wpAnyH_take (i := 12) (v := ?_) rfl (by kernel_rfl) (by kernel_rfl) (by kernel_rfl) (fun _ _ _ h => h) (Or.inl ⟨by rfl, ?_⟩) hHeld ?_
              rotate_left
              · intro V hSw; go_simp; rfl
              try simp only [Act.put, List.getElem_toArray, List.getElem_cons_succ, List.getElem_cons_zero, List.setIfInBounds_toArray, List.set_cons_zero, List.set_cons_succ]
              refine wpAnyH_done (by kernel_rfl) ?_ _
              refine NoPanic.normal ?_
              clear hHeld y1 y2 bw bw2 BXX
              go_wp2_with fail
              go_meet
              exact ⟨pX, aE, cE, E, ok, rfl, rfl, hEl, hpb, (unhide F7).1, (unhide RE).mono (by omega), BR, BS, RS, (unhide CU).mono (by omega), KX⟩
          · -- what wanders first
            go_simp
            obtain ⟨U6, hU⟩ : ∃ U, U = U0.alloc (.cells #[.int .i64 0, .slice none 0 0, .bool false, .int .i64 0, .int .i64 0, .int .i64 0, .int .i64 0] 27) := ⟨_, rfl⟩
            have bU : Below U0.heap.size U0 U6 := by rw [hU]; exact (Below.refl _ _).alloc (Nat.le_refl _) _
            have BXX := hide (show Bx U6 U0.heap.size [.int .i64 0, .slice none 0 0, .bool false, .int .i64 0, .int .i64 0, .int .i64 0, .int .i64 0] by rw [hU]; exact Bx.new U0 _ _)
            rw [← hU]
            refine hK.out _ _ (hHeld.trans (Kx.of bU)) (fun hHeld => ?_)
            clear hK K hU
            try simp only [Act.put, List.getElem_toArray, List.getElem_cons_succ, List.getElem_cons_zero, List.setIfInBounds_toArray, List.set_cons_zero, List.set_cons_succ]
            have NERS := hide (fun q hq => ((unhide RS).ob q hq).2)
            replace CU := hide ((unhide CU).same bU)
            replace KX := hide ((unhide KX).trans (Kx.of bU))
            replace BR := hide ((unhide BR).below bU)
            replace BS := hide ((unhide BS).below bU)
            replace RS := hide ((unhide RS).below bU)
            have szU6 : U0.heap.size < U6.heap.size := (unhide BXX).lt
            clear bU
            obtain ⟨pX, hpX⟩ : ∃ p, p = U0.heap.size := ⟨_, rfl⟩
            rw [← hpX] at BXX ⊢
            have hpX1 : pX ≤ U0.heap.size := by omega
            have hpX2 : U0.heap.size ≤ pX := by omega
            clear hpX
            refine wpAnyH_ready (rs := [4]) (by kernel_rfl) (by simp) ?_
            refine (AllReadyH.cons rfl (fun K hK => ?_) AllReadyH.nil)
            go_simp
            go_at_call 12
            refine (pickN cb a N cap (P + 2 + 30 * j + 2 + 2) 1200 _ hN (by omega) (by omega) (by omega) (unhide CU)).mono ?_
            rintro e w5 ⟨r5, rfl, qr5, u5, k5⟩
            refine hK.out _ _ (hHeld.trans k5) (fun hHeld => ?_)
            clear hK K
            try simp only [Act.put, List.getElem_toArray, List.getElem_cons_succ, List.getElem_cons_zero, List.setIfInBounds_toArray, List.set_cons_zero, List.set_cons_succ]
            replace CU := hide u5
            replace KX := hide ((unhide KX).trans k5)
            replace BR := hide (bx_kx (unhide BR) k5 (by omega))
            replace BS := hide (bx_kx (unhide BS) k5 (by omega))
            replace RS := hide ((unhide RS).kq (kx_kq k5) (fun q hq => by omega))
            replace BXX := hide (bx_kx (unhide BXX) k5 (by omega))
            have szw5 := k5.size
            clear u5 k5
            refine wpAnyH_take (i := 5) (v := ?_) rfl (by kernel_rfl) (by kernel_rfl) (by kernel_rfl) (fun _ _ _ h => h) (Or.inl ⟨by rfl, ?_⟩) hHeld ?_
            rotate_left
            · intro V hSw; go_simp; rfl
            try simp only [Act.put, List.getElem_toArray, List.getElem_cons_succ, List.getElem_cons_zero, List.setIfInBounds_toArray, List.set_cons_zero, List.set_cons_succ]
            refine wpAnyH_ready (rs := [6]) (by kernel_rfl) (by simp) ?_
            refine (AllReadyH.cons rfl (fun K hK => ?_) AllReadyH.nil)
            go_simp
            go_at_call 35
            refine (specSNo D ⟨nx, nw, r5⟩ (by omega) _ aS cS (unhide RS).ri.1.rd).mono ?_
            rintro e w6 ⟨aE, cE, rfl, oE, b6⟩
            have hEl := sn_le D ⟨nx, nw, r5⟩ (snB D ⟨nx, nw, r5⟩)
            generalize snD D ⟨nx, nw, r5⟩ (snB D ⟨nx, nw, r5⟩) = E at *
            generalize snB D ⟨nx, nw, r5⟩ = ok at *
            refine hK.out _ _ (hHeld.trans (Kx.of b6)) (fun hHeld => ?_)
            clear hK K
            try simp only [Act.put, List.getElem_toArray, List.getElem_cons_succ, List.getElem_cons_zero, List.setIfInBounds_toArray, List.set_cons_zero, List.set_cons_succ]
            replace CU := hide ((unhide CU).same b6)
            replace KX := hide ((unhide KX).trans (Kx.of b6))
            replace BR := hide ((unhide BR).below b6)
            replace BS := hide ((unhide BS).below b6)
            replace RS := hide ((unhide RS).below b6)
            replace BXX := hide ((unhide BXX).below b6)
            have szw6 := b6.size
            have RE := hide oE
            clear oE b6
            refine wpAnyH_take (i := 7) (v := ?_) rfl (by kernel_rfl) (by kernel_rfl) (by kernel_rfl) (fun _ _ _ h => h) (Or.inl ⟨by rfl, ?_⟩) hHeld ?_
            rotate_left
            · intro V hSw; go_simp; rfl
            try simp only [Act.put, List.getElem_toArray, List.getElem_cons_succ, List.getElem_cons_zero, List.setIfInBounds_toArray, List.set_cons_zero, List.set_cons_succ]
            refine wpAnyH_take (i := 8) (v := ?_) rfl (by kernel_rfl) (by kernel_rfl) (by kernel_rfl) (fun _ _ _ h => h) (Or.inl ⟨by rfl, ?_⟩) hHeld ?_
            rotate_left
            · intro V hSw; go_simp; rfl
            try simp only [Act.put, List.getElem_toArray, List.getElem_cons_succ, List.getElem_cons_zero, List.setIfInBounds_toArray, List.set_cons_zero, List.set_cons_succ]
            refine wpAnyH_take (i := 9) (v := ?_) rfl (by kernel_rfl) (by kernel_rfl) (by kernel_rfl) (fun _ _ _ h => h) (Or.inl ⟨by rfl, ?_⟩) hHeld ?_
            rotate_left
            · intro V hSw; go_simp; rfl
            try simp only [Act.put, List.getElem_toArray, List.getElem_cons_succ, List.getElem_cons_zero, List.setIfInBounds_toArray, List.set_cons_zero, List.set_cons_succ]
            have y1 := (unhide BXX).cv
            have y2 := (unhide BXX).fz
            have yl := (unhide BXX).lt
            have hpb : w.heap.size + 2 ≤ pX := by omega
            have F7 := hide (st7d (unhide BXX) (.int .i64 E.lg) (.slice aE E.S.length cE) (.bool E.r.kn) (.int .i64 E.r.la) (.int .i64 E.r.mi) (.int .i64 E.r.sm) (.int .i64 E.r.va))
            have bw := (unhide F7).2.below (base := w.heap.size) (by omega) (fun q hq => by omega)
            have bw2 := (unhide F7).2.below (base := w3.heap.size) (by omega) (fun q hq => by omega)
            replace CU := hide (cu_bel (unhide H00) (unhide CU) bw (Nat.le_refl _))
            replace KX := hide (kx_bel (unhide KX) bw (Nat.le_refl _))
            replace BR := hide (Bx.kq (unhide BR) (unhide F7).2 (by omega))
            replace BS := hide (Bx.kq (unhide BS) (unhide F7).2 (by omega))
            replace RS := hide ((unhide RS).ko (unhide F7).2 (fun q hq e => by have := unhide NERS q hq; omega))
            have OBRE := fun q hq => (unhide RE).ob q hq
            replace RE := hide ((unhide RE).ko (unhide F7).2 (fun q hq e => by have := OBRE q hq; omega))
            clear OBRE
            refine wpAnyH_ready (rs := [11]) (by kernel_rfl) (by simp) ?_
            refine (AllReadyH.cons rfl (fun K hK => ?_) AllReadyH.nil)
            go_simp
            refine hK.out _ _ (kx_bel hHeld bw2 (Nat.le_refl _)) (fun hHeld => ?_)
            clear hK K
            try simp only [Act.put, List.getElem_toArray, List.getElem_cons_succ, List.getElem_cons_zero, List.setIfInBounds_toArray, List.set_cons_zero, List.set_cons_succ]
            refine wpAnyH_take (i := 12) (v := ?_) rfl (by kernel_rfl) (by kernel_rfl) (by kernel_rfl) (fun _ _ _ h => h) (Or.inl ⟨by rfl, ?_⟩) hHeld ?_
            rotate_left
            · intro V hSw; go_simp; rfl
            try simp only [Act.put, List.getElem_toArray, List.getElem_cons_succ, List.getElem_cons_zero, List.setIfInBounds_toArray, List.set_cons_zero, List.set_cons_succ]
            refine wpAnyH_done (by kernel_rfl) ?_ _
            refine NoPanic.normal ?_
            clear hHeld y1 y2 bw bw2 BXX
            go_wp2_with fail
            go_meet
            exact ⟨pX, aE, cE, E, ok, rfl, rfl, hEl, hpb, (unhide F7).1, (unhide RE).mono (by omega), BR, BS, RS, (unhide CU).mono (by omega), KX⟩
        case rest =>
        obtain ⟨pX, aE, cE, E, ok, rfl, rfl, hEl, hpb, BE, RE, BR, BS, RS, CU, KX⟩ := hcut
        obtain ⟨w7, hV⟩ : ∃ V, V = wc := ⟨_, rfl⟩
        rw [← hV] at BE RE BR BS RS CU KX ⊢
        clear hV
        have szx : pX < w7.heap.size := (unhide BE).lt
        go_upto_if 61 with fail
        go_cut [] (fun wx => ∃ (E' : SpaceD) (aE' : Option Addr) (cE' : Nat), E'.S.length ≤ D.S.length + 1 ∧ Hid (Bx wx w.heap.size spaceZ) ∧ Hid (Bx wx (w.heap.size + 1) (spaceC E' aE' cE')) ∧ Hid (Ro sentK 37 (w.heap.size + 2) wx (.slice aE' E'.S.length cE') E'.S) ∧ Hid (Cu wx cb a N cap (P + 2 + 30 * j + 26)) ∧ Hid (Kx cb w wx))
        case first =>
          cases ok with
          | false =>
            go_wp2
            go_meet
            exact ⟨D, aS, cS, by omega, BR, BS, RS, CU, KX⟩
          | true =>
            have F7 := hide (st7d (unhide BS) (.int .i64 E.lg) (.slice aE E.S.length cE) (.bool E.r.kn) (.int .i64 E.r.la) (.int .i64 E.r.mi) (.int .i64 E.r.sm) (.int .i64 E.r.va))
            have bw := (unhide F7).2.below (base := w.heap.size) (by have := (unhide KX).size; omega) (fun q hq => by omega)
            have xc := (unhide BE).cv
            have xl := (unhide BE).lt
            have sc := (unhide BS).cv
            have sf := (unhide BS).fz
            have sl := (unhide BS).lt
            have BR' := hide (Bx.kq (unhide BR) (unhide F7).2 (by omega))
            have RE' := hide ((unhide RE).kq (unhide F7).2 (fun q hq => by omega))
            have CU' := hide (cu_bel (unhide H00) (unhide CU) bw (Nat.le_refl _))
            have KX' := hide (kx_bel (unhide KX) bw (Nat.le_refl _))
            have BS' := hide (unhide F7).1
            clear bw F7 BE RE BR BS RS CU KX
            go_wp2
            go_meet
            exact ⟨E, aE, cE, hEl, BR', BS', RE', CU', KX'⟩
        case rest =>
        obtain ⟨E', aE', cE', hEl', BR', BS', RE', CU', KX'⟩ := hcut
        obtain ⟨w8, hV⟩ : ∃ V, V = wc := ⟨_, rfl⟩
        rw [← hV] at BR' BS' RE' CU' KX' ⊢
        clear hV
        clear BE RE BR BS RS CU KX
        go_wp2_with fail
        refine (pickN cb a N cap (P + 2 + 30 * j + 26) 2 _ hN (by omega) (by omega) (by omega) (unhide CU')).mono ?_
        rintro e w9 ⟨r9, rfl, q9, u9, k9⟩
        have BR := hide (bx_kx (unhide BR') k9 (by omega))
        have BS := hide (bx_kx (unhide BS') k9 (by omega))
        have RS := hide ((unhide RE').kq (kx_kq k9) (fun q hq => by omega))
        have CU := hide (u9.mono (Q := P + 2 + 30 * (j + 1)) (by omega))
        have KX := hide ((unhide KX').trans k9)
        clear u9 k9 BR' BS' RE' CU' KX'
        go_wp2
        exact ⟨⟨j + 1, n, nw, _, E', aE', cE', by omega, rfl, rfl, by go_num, by omega, BR, BS, RS, CU, KX⟩, by simp [intOf]⟩
    · obtain rfl : n = 0 := by omega
      replace CU := hide ((unhide CU).mono (Q := P + 400) (by omega))
      have hD13 : D.S.length ≤ 13 := by omega
      clear hDj hj hn0
      go_wp2_with fail
      refine (pickN cb a N cap (P + 400) 40 _ hN (by omega) (by omega) (by omega) (unhide CU)).mono ?_
      rintro e w2 ⟨r2, rfl, q2, u2, k2⟩
      replace BR := hide (bx_kx (unhide BR) k2 (by omega))
      replace BS := hide (bx_kx (unhide BS) k2 (by omega))
      replace RS := hide ((unhide RS).kq (kx_kq k2) (fun q hq => by omega))
      replace KX := hide ((unhide KX).trans k2)
      replace CU := hide u2
      have sz2 := k2.size
      clear u2 k2
      by_cases h0 : r2 = 0
      · subst h0
        go_wp2_with fail
        refine (among_any cb a N cap (P + 400 + 2) w2.heap.size 3 3 (fun x => True) _ hN (by omega) (by omega) (by omega) (by simp) (by omega)
          (lit_cells w2 [-2, 4611686018427387903, 4611686018427387904] 3 _ (fun _ _ => trivial)) ((unhide CU).alloc _)).mono ?_
        rintro e w3 ⟨x3, rfl, _, u3, k3⟩
        have hA := (Below.refl w2.heap.size w2).alloc (Nat.le_refl _) (.cells #[.int .i64 (-2), .int .i64 4611686018427387903, .int .i64 4611686018427387904] 3)
        have BR3 := bx_kx ((unhide BR).below hA) k3 (by omega)
        have BS3 := bx_kx ((unhide BS).below hA) k3 (by omega)
        have RS3 := ((unhide RS).below hA).kq (kx_kq k3) (fun q hq => by omega)
        have KX3 := ((unhide KX).trans (Kx.of hA)).trans k3
        have sz3 := k3.size
        simp only [World.size_alloc] at sz3
        have SS := BS3.set (i := 0) (u := .int .i64 x3) (by simp)
        have kq : Kq (fun q => q = w.heap.size + 1) w3 (w3.setCell ⟨w.heap.size + 1, 0, none⟩ (.int .i64 x3)) := (Kq.refl _ _).set rfl
        obtain ⟨V, hV⟩ : ∃ V, V = w3.setCell ⟨w.heap.size + 1, 0, none⟩ (.int .i64 x3) := ⟨_, rfl⟩
        rw [← hV] at SS kq
        have bw := kq.below (base := w.heap.size) (by omega) (fun q hq => by omega)
        have HE : Hid (∃ E : SpaceD, E.S.length ≤ 13 ∧ Bx V (w.heap.size + 1) (spaceC E aS cS) ∧ Ro sentK 37 (w.heap.size + 2) V (.slice aS E.S.length cS) E.S) := ⟨⟨x3, D.S, D.r⟩, hD13, SS, RS3.kq kq (fun q hq => by omega)⟩
        have BR' := hide (Bx.kq BR3 kq (by omega))
        have CU' := hide ((cu_bel (unhide H00) u3 bw (Nat.le_refl _)).mono (Q := P + 450) (by omega))
        have KX' := hide (kx_bel KX3 bw (Nat.le_refl _))
        have sc := BS3.cv
        have sf := BS3.fz
        have sl := BS3.lt
        have HV := hide hV
        clear u3 k3 hA BR3 BS3 RS3 KX3 sz3 SS kq hV bw BR BS RS CU KX
        go_upto_region 24 with fail
        rw [← unhide HV]
        clear HV sc sf sl
        obtain ⟨E, hE, SS, RE⟩ := unhide HE
        have sc := SS.cv
        have sl := SS.lt
        have rc := (unhide BR').cv
        have rf := (unhide BR').fz
        have rl := (unhide BR').lt
        have F7 := hide (st7d (unhide BR') (.int .i64 E.lg) (.slice aS E.S.length cS) (.bool E.r.kn) (.int .i64 E.r.la) (.int .i64 E.r.mi) (.int .i64 E.r.sm) (.int .i64 E.r.va))
        have bw := (unhide F7).2.below (base := w.heap.size) (by omega) (fun q hq => by omega)
        have FIN : Hid (SPQ cb a N cap P w (.returned (.tuple #[spaceV E aS cS, .int .i64 nw])) (((((((V.setCell ⟨w.heap.size, 0, none⟩ (.int .i64 E.lg)).setCell ⟨w.heap.size, 1, none⟩ (.slice aS E.S.length cS)).setCell ⟨w.heap.size, 2, none⟩ (.bool E.r.kn)).setCell ⟨w.heap.size, 3, none⟩ (.int .i64 E.r.la)).setCell ⟨w.heap.size, 4, none⟩ (.int .i64 E.r.mi)).setCell ⟨w.heap.size, 5, none⟩ (.int .i64 E.r.sm)).setCell ⟨w.heap.size, 6, none⟩ (.int .i64 E.r.va))) := ⟨E, aS, cS, nw, rfl, by omega, RE.ri.2, ((RE.kq (unhide F7).2 (fun q hq => by omega)).mono (base' := w.heap.size) (by omega)).ri.1, cu_bel (unhide H00) (unhide CU') bw (Nat.le_refl _), kx_bel (unhide KX') bw (Nat.le_refl _)⟩
        clear F7 bw SS RE BR' CU' KX'
        go_wp2
        refine bodyPost_ret (v := .tuple #[spaceV E aS cS, .int .i64 nw]) (by simp [results, Try.results10, go_sem, rc]) rfl (unhide FIN)
      · have h0' : ((r2 : Int) == 0) = false := beq_eq_false_iff_ne.2 (by omega)
        by_cases h1 : r2 = 1
        · subst h1
          clear h0
          have UD := hide ((unhide CU).same (Below.refl _ _).drew)
          have BSD := hide ((unhide BS).drew)
          have BRD := hide ((unhide BR).drew)
          have RSD := hide ((unhide RS).below (Below.refl _ _).drew)
          have KXD := hide ((unhide KX).drew)
          have x0 := (unhide BSD).cv
          have xf := (unhide BSD).fz
          have xl := (unhide BSD).lt
          have hne : w.heap.size + 1 ≠ cb := by omega
          have sl0 := (unhide BS).lt
          clear BR BS RS CU KX
          go_upto_region 23 with fail
          go_region_law (first
            | (go_simp; go_at_call 12; with_reducible refine (pick_any cb a N cap (P + 400 + 2) 9 _ hN (by omega) (by omega) (by omega) (unhide UD)).mono ?_; rintro e w5 ⟨r5, rfl, p5, p5', u5, k5⟩; have x5 := (bx_kx (unhide BSD) k5 hne).cv; have x5l := (bx_kx (unhide BSD) k5 hne).lt)
            | (go_simp; go_at_call 12; with_reducible refine (pick_any cb a N cap (P + 400 + 2 + 2) 9 _ hN (by omega) (by omega) (by omega) u5).mono ?_; rintro e w6 ⟨r6, rfl, p6, p6', u6, k6⟩; have x6 := (bx_kx (bx_kx (unhide BSD) k5 hne) k6 hne).cv; have x6l := (bx_kx (bx_kx (unhide BSD) k5 hne) k6 hne).lt; obtain ⟨v9, w9, run, o9, b9, _⟩ := pushSent w6 (w.heap.size + 2) _ D.S ⟨r5, r6, 0⟩ (((unhide RSD).kq (kx_kq k5) (fun q hq => by omega)).kq (kx_kq k6) (fun q hq => by omega)) (by omega) (by have h1 := k5.size; rw [World.size_drew] at h1; have h2 := k6.size; omega); have X9 := (bx_kx (bx_kx (unhide BSD) k5 hne) k6 hne).kept b9.size (b9.block _ (by omega)); have x9 := X9.cv; have x9f := X9.fz; have x9l := X9.lt; obtain ⟨a9, c9, rfl⟩ := o9.opens)
            | (refine stp_app rfl _ _ 23 rfl _ _ _ _ (by simp [Act.eval]) (by simp [Act.eval]) run ?_))
          all_goals
            have hl9 : (D.S ++ [(⟨r5, r6, 0⟩ : SentD)]).length = D.S.length + 1 := by simp
            have h25 := k5.size
            rw [World.size_drew] at h25
            have h56 := k6.size
            have h69 := b9.size
            have kq : Kq (fun q => q = w.heap.size + 1) w9 (w9.setCell ⟨w.heap.size + 1, 1, none⟩ (.slice a9 (D.S.length + 1) c9)) := (Kq.refl _ _).set rfl
            have SS0 := X9.set (i := 1) (u := .slice a9 (D.S.length + 1) c9) (by simp)
            obtain ⟨V, hV⟩ : ∃ V, V = w9.setCell ⟨w.heap.size + 1, 1, none⟩ (.slice a9 (D.S.length + 1) c9) := ⟨_, rfl⟩
            rw [← hV] at SS0 kq ⊢
            have bw := kq.below (base := w.heap.size) (by omega) (fun q hq => by omega)
            have HE : Hid (∃ E : SpaceD, E.S.length ≤ 14 ∧ Bx V (w.heap.size + 1) (spaceC E a9 c9) ∧ Ro sentK 37 (w.heap.size + 2) V (.slice a9 E.S.length c9) E.S) := ⟨⟨D.lg, D.S ++ [⟨r5, r6, 0⟩], D.r⟩, by show (D.S ++ [(⟨r5, r6, 0⟩ : SentD)]).length ≤ 14; omega, by show Bx V (w.heap.size + 1) [.int .i64 D.lg, .slice a9 (D.S ++ [(⟨r5, r6, 0⟩ : SentD)]).length c9, .bool D.r.kn, .int .i64 D.r.la, .int .i64 D.r.mi, .int .i64 D.r.sm, .int .i64 D.r.va]; rw [hl9]; exact SS0, o9.kq kq (fun q hq => by omega)⟩
            have BR' := hide (Bx.kq ((bx_kx (bx_kx (unhide BRD) k5 (by omega)) k6 (by omega)).kept b9.size (b9.block _ (by omega))) kq (by omega))
            have CU' := hide ((cu_bel (unhide H00) (cu_bel (unhide H00) u6 b9 (by omega)) bw (Nat.le_refl _)).mono (Q := P + 450) (by omega))
            have KX' := hide (kx_bel (kx_bel (((unhide KXD).trans k5).trans k6) b9 (by omega)) bw (Nat.le_refl _))
            have hsV : w.heap.size + 2 ≤ V.heap.size := by have := kq.size; omega
            clear hV bw kq SS0 o9 b9 u5 u6 k5 k6 run X9 x9 x9f x9l x6 x6l x5 x5l x0 xf xl UD BSD BRD RSD KXD hl9 h25 h56 h69
            go_upto_region 24 with fail
            obtain ⟨E, hE, SS, RE⟩ := unhide HE
            have sc := SS.cv
            have sl := SS.lt
            have rc := (unhide BR').cv
            have rf := (unhide BR').fz
            have rl := (unhide BR').lt
            have F7 := hide (st7d (unhide BR') (.int .i64 E.lg) (.slice a9 E.S.length c9) (.bool E.r.kn) (.int .i64 E.r.la) (.int .i64 E.r.mi) (.int .i64 E.r.sm) (.int .i64 E.r.va))
            have bw := (unhide F7).2.below (base := w.heap.size) (by omega) (fun q hq => by omega)
            have FIN : Hid (SPQ cb a N cap P w (.returned (.tuple #[spaceV E a9 c9, .int .i64 nw])) (((((((V.setCell ⟨w.heap.size, 0, none⟩ (.int .i64 E.lg)).setCell ⟨w.heap.size, 1, none⟩ (.slice a9 E.S.length c9)).setCell ⟨w.heap.size, 2, none⟩ (.bool E.r.kn)).setCell ⟨w.heap.size, 3, none⟩ (.int .i64 E.r.la)).setCell ⟨w.heap.size, 4, none⟩ (.int .i64 E.r.mi)).setCell ⟨w.heap.size, 5, none⟩ (.int .i64 E.r.sm)).setCell ⟨w.heap.size, 6, none⟩ (.int .i64 E.r.va))) := ⟨E, a9, c9, nw, rfl, by omega, RE.ri.2, ((RE.kq (unhide F7).2 (fun q hq => by omega)).mono (base' := w.heap.size) (by omega)).ri.1, cu_bel (unhide H00) (unhide CU') bw (Nat.le_refl _), kx_bel (unhide KX') bw (Nat.le_refl _)⟩
            clear F7 bw SS RE BR' CU' KX'
            go_wp2
            refine bodyPost_ret (v := .tuple #[spaceV E a9 c9, .int .i64 nw]) (by simp [results, Try.results10, go_sem, rc]) rfl (unhide FIN)
        · have h1' : ((r2 : Int) == 1) = false := beq_eq_false_iff_ne.2 (by omega)
          clear h0 h1
          go_upto_region 24 with fail
          have SS := unhide BS
          have RE := unhide RS
          have BR' := BR
          have CU' := hide ((unhide CU).mono (Q := P + 450) (by omega))
          have KX' := KX
          clear BR BS RS CU KX
          have sc := SS.cv
          have sl := SS.lt
          have rc := (unhide BR').cv
          have rf := (unhide BR').fz
          have rl := (unhide BR').lt
          have F7 := hide (st7d (unhide BR') (.int .i64 D.lg) (.slice aS D.S.length cS) (.bool D.r.kn) (.int .i64 D.r.la) (.int .i64 D.r.mi) (.int .i64 D.r.sm) (.int .i64 D.r.va))
          have bw := (unhide F7).2.below (base := w.heap.size) (by omega) (fun q hq => by omega)
          have FIN : Hid (SPQ cb a N cap P w (.returned (.tuple #[spaceV D aS cS, .int .i64 nw])) (((((((w2.setCell ⟨w.heap.size, 0, none⟩ (.int .i64 D.lg)).setCell ⟨w.heap.size, 1, none⟩ (.slice aS D.S.length cS)).setCell ⟨w.heap.size, 2, none⟩ (.bool D.r.kn)).setCell ⟨w.heap.size, 3, none⟩ (.int .i64 D.r.la)).setCell ⟨w.heap.size, 4, none⟩ (.int .i64 D.r.mi)).setCell ⟨w.heap.size, 5, none⟩ (.int .i64 D.r.sm)).setCell ⟨w.heap.size, 6, none⟩ (.int .i64 D.r.va))) := ⟨D, aS, cS, nw, rfl, by omega, RE.ri.2, ((RE.kq (unhide F7).2 (fun q hq => by omega)).mono (base' := w.heap.size) (by omega)).ri.1, cu_bel (unhide H00) (unhide CU') bw (Nat.le_refl _), kx_bel (unhide KX') bw (Nat.le_refl _)⟩
          clear F7 bw SS RE BR' CU' KX'
          go_wp2
          refine bodyPost_ret (v := .tuple #[spaceV D aS cS, .int .i64 nw]) (by simp [results, Try.results10, go_sem, rc]) rfl (unhide FIN)
end Go.Proofs.Ytccfbkpelehldaa.Rc
