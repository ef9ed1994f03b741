/-
  Contract: TakeAck of the program.
-/
import Derived.Test.YtccfbkpelehldaaTai
import Derived.Test.YtccfbkpelehldaaGoodRangesI
namespace Go.Proofs.Ytccfbkpelehldaa.Rc
open Go.ChangeShapes Go.WideShapes Go.ChangeAt Go.RowKit Go.Deep
set_option linter.unusedVariables false
set_option maxRecDepth 100000

theorem sr_sm {r : RttD} {la de : Int} (h : rtB r = true) (hl : tkB la = true) (hd : tkB de = true) : srB r la de = true ∧ srD r la de true = smD r la de := by
  unfold srB
  rw [h, hl, hd]
  exact ⟨rfl, rfl⟩
theorem st7 {U : World} {p : Nat} {z0 z1 z2 z3 z4 z5 z6 : Value} (h : Bx U p [z0, z1, z2, z3, z4, z5, z6]) (v0 v1 v2 v3 v4 v5 v6 : Value) :
    Bx (((((((U.setCell ⟨p, 0, none⟩ v0).setCell ⟨p, 1, none⟩ v1).setCell ⟨p, 2, none⟩ v2).setCell ⟨p, 3, none⟩ v3).setCell ⟨p, 4, none⟩ v4).setCell ⟨p, 5, none⟩ v5).setCell ⟨p, 6, none⟩ v6) p [v0, v1, v2, v3, v4, v5, v6] ∧
    Kq (fun q => q = p) U (((((((U.setCell ⟨p, 0, none⟩ v0).setCell ⟨p, 1, none⟩ v1).setCell ⟨p, 2, none⟩ v2).setCell ⟨p, 3, none⟩ v3).setCell ⟨p, 4, none⟩ v4).setCell ⟨p, 5, none⟩ v5).setCell ⟨p, 6, none⟩ v6) :=
  ⟨((((((h.set (i := 0) (by simp)).set (i := 1) (by simp)).set (i := 2) (by simp)).set (i := 3) (by simp)).set (i := 4) (by simp)).set (i := 5) (by simp)).set (i := 6) (by simp),
   (((((((Kq.refl (fun q => q = p) U).set rfl).set rfl).set rfl).set rfl).set rfl).set rfl).set rfl⟩
/-- what the program answers, with the room of the row of packets -/
def TAPc (D : SpaceD) (L : List RangeD) (now de : Int) (W : World) (e : Ending) (w' : World) : Prop :=
  ∃ (a0 : Option Addr) (c0 : Nat) (a1 : Option Addr) (c1 : Nat) (a2 : Option Addr) (c2 g0 g1 g2 : Nat),
    e = .returned (.tuple #[spaceV (taD D L now de (taB D L now de)) a0 c0, .slice a1 (taA D L (taB D L now de)).length c1, .slice a2 (taL D L now de (taB D L now de)).length c2, .bool (taB D L now de)]) ∧ (taD D L now de (taB D L now de)).S.length ≤ c0 ∧
    Rb sentK W.heap.size w' a0 (taD D L now de (taB D L now de)).S g0 ∧ Rb intK W.heap.size w' a1 (taA D L (taB D L now de)) g1 ∧ Rb intK W.heap.size w' a2 (taL D L now de (taB D L now de)) g2 ∧ g0 ≠ g1 ∧ g0 ≠ g2 ∧ g1 ≠ g2 ∧ Below W.heap.size W w'
theorem TAPc.tap {D : SpaceD} {L : List RangeD} {now de : Int} {W w' : World} {e : Ending} (h : TAPc D L now de W e w') : TAP D L now de W e w' := by
  obtain ⟨a0, c0, a1, c1, a2, c2, g0, g1, g2, h1, _, h3⟩ := h
  exact ⟨a0, c0, a1, c1, a2, c2, g0, g1, g2, h1, h3⟩
theorem TAPc.no {D : SpaceD} {L : List RangeD} {now de : Int} {W w' : World} (h : taB D L now de = false) (b : Below W.heap.size W w') : TAPc D L now de W (.returned (.tuple #[.agg spaceZ.toArray, .slice none 0 0, .slice none 0 0, .bool false])) w' :=
  ⟨none, 0, none, 0, none, 0, 0, 1, 2, by rw [h]; rfl, by rw [h]; exact Nat.le_refl 0, by rw [h]; exact Or.inl rfl, by rw [h]; exact Or.inl rfl, by rw [h]; exact Or.inl rfl, by omega, by omega, by omega, b⟩
theorem TAPc.yes {D : SpaceD} {L : List RangeD} {now de : Int} {W w' : World} {a0 a1 a2 : Option Addr} {c0 c1 c2 g0 g1 g2 : Nat} (h : taB D L now de = true)
    (hc : ((lfS L D.S).filter fun x => !loB (taG D L) now (taR D L now de) x).length ≤ c0) (h0 : Rb sentK W.heap.size w' a0 ((lfS L D.S).filter fun x => !loB (taG D L) now (taR D L now de) x) g0) (h1 : Rb intK W.heap.size w' a1 ((akS L D.S).map fun x => x.f0) g1) (h2 : Rb intK W.heap.size w' a2 (((lfS L D.S).filter fun x => loB (taG D L) now (taR D L now de) x).map fun x => x.f0) g2) (n01 : g0 ≠ g1) (n02 : g0 ≠ g2) (n12 : g1 ≠ g2) (b : Below W.heap.size W w') :
    TAPc D L now de W (.returned (.tuple #[spaceV ⟨taG D L, (lfS L D.S).filter fun x => !loB (taG D L) now (taR D L now de) x, taR D L now de⟩ a0 c0, .slice a1 ((akS L D.S).map fun x => x.f0).length c1, .slice a2 (((lfS L D.S).filter fun x => loB (taG D L) now (taR D L now de) x).map fun x => x.f0).length c2, .bool true])) w' :=
  ⟨a0, c0, a1, c1, a2, c2, g0, g1, g2, by rw [h]; rfl, by rw [h]; exact hc, by rw [h]; exact h0, by rw [h]; exact h1, by rw [h]; exact h2, n01, n02, n12, b⟩
set_option maxHeartbeats 16000000 in
theorem implTAc (D : SpaceD) (L : List RangeD) (now de : Int) (hn : D.S.length ≤ 1048576) (hm : L.length ≤ 1048576) (ho : rgO L) (W : World) (a : Option Addr) (c : Nat) (hc : D.S.length ≤ c) (aL : Option Addr) (cL : Nat) (h : RdSpace W a D) (hL : Rd rangeK W aL L) :
    Calls Try.prog 5 #[spaceV D a c, .slice aL L.length cL, .int .i64 now, .int .i64 de] W (TAPc D L now de W) := by
  obtain ⟨V0, hV0⟩ : ∃ V, V = (((W.alloc (.cells (spaceC D a c).toArray 27)).alloc (.cells #[.slice aL L.length cL] 28)).alloc (.cells #[.int .i64 now] 3)).alloc (.cells spaceZ.toArray 27) := ⟨_, rfl⟩
  have A0 := hide (show Bx V0 W.heap.size (spaceC D a c) by rw [hV0]; exact (((Bx.new W _ _).alloc _).alloc _).alloc _)
  have L0 := hide (show Bx V0 (W.heap.size + 1) [.slice aL L.length cL] by rw [hV0]; exact ((Bx.newAt (W.alloc _) _ _ _ (by simp)).alloc _).alloc _)
  have N0 := hide (show Bx V0 (W.heap.size + 1 + 1) [.int .i64 now] by rw [hV0]; exact (Bx.newAt ((W.alloc _).alloc _) _ _ _ (by simp)).alloc _)
  have R0 := hide (show Bx V0 (W.heap.size + 1 + 1 + 1) spaceZ by rw [hV0]; exact Bx.newAt (((W.alloc _).alloc _).alloc _) _ _ _ (by simp))
  have B0 := hide (show Below W.heap.size W V0 by rw [hV0]; exact ((((Below.refl W.heap.size W).alloc (Nat.le_refl _) _).alloc (by simp) _).alloc (by simp; omega) _).alloc (by simp; omega) _)
  have HG := hide (fun V (b : Below W.heap.size W V) => implGS D hn V a c hc (h.below b))
  have HL := hide (fun V (b : Below W.heap.size W V) => implGR L hm ho V aL cL (hL.below b))
  have HA := hide (fun V (b : Below W.heap.size W V) => implLt a c D.S V hn (h.below b))
  have HR := hide (fun V (b : Below W.heap.size W V) => h.below b)
  have HRL := hide (fun V (b : Below W.heap.size W V) => hL.below b)
  have HT1 := hide (implTk now)
  have HT2 := hide (implTk de)
  have NO : Hid (∀ V, taB D L now de = false → Below W.heap.size W V → TAPc D L now de W (.returned (.tuple #[.agg spaceZ.toArray, .slice none 0 0, .slice none 0 0, .bool false])) V) := fun V h b => TAPc.no h b
  have hta : Hid (taB D L now de = (gsB D && (grB L && (decide (L.length ≠ 0) && (tkB now && (decide ((laS D.S).f1 ≤ now) && tkB de)))))) := rfl
  have hmf : ∀ (fn : Fn) (first cap : Array Value) (w : World), (Instr.makeFunc fn first cap).run Try.prog w = .ok (.func fn first cap) w := fun _ _ _ _ => rfl
  have HV0 := hide hV0
  have HO := hide ho
  have a0 := (unhide A0).cv
  clear h hL hV0 ho hc
  go_enter Try.func5, Try.ntmps5
  go_upto_region 1 with fail
  rw [← unhide HV0]
  clear HV0
  go_wp2_with fail
  refine (unhide HG _ (unhide B0)).mono ?_
  rintro e w1 ⟨rfl, b1⟩
  have A1 := hide ((unhide A0).below b1)
  have L1 := hide ((unhide L0).below b1)
  have N1 := hide ((unhide N0).below b1)
  have R1 := hide ((unhide R0).below b1)
  have B1 := hide ((unhide B0).trans (b1.mono (unhide B0).size))
  clear b1 A0 L0 N0 R0 B0
  clear a0
  cases hg : gsB D with
  | false =>
    have HE : Hid (taB D L now de = false) := by show _ = _; rw [unhide hta, hg]; rfl
    clear HG HL HA HR HRL HT1 HT2 hta HO A1 L1 N1 hg hmf
    have r2 := (unhide R1).cv
    have r2f := (unhide R1).fz
    have r2l := (unhide R1).lt
    go_wp2
    refine bodyPost_ret (v := .tuple #[.agg spaceZ.toArray, .slice none 0 0, .slice none 0 0, .bool false]) (by simp [results, Try.results5, go_sem, r2]) rfl (unhide NO _ (unhide HE) ?_)
    iterate 7 refine Below.setCell ?_ (by simp <;> omega) _
    exact unhide B1
  | true =>
  rw [hg] at hta
  have l1 := (unhide L1).cv
  have l1l := (unhide L1).lt
  go_wp2_with fail
  refine (unhide HL _ (unhide B1)).mono ?_
  rintro e w2 ⟨rfl, b2⟩
  have A2 := hide ((unhide A1).below b2)
  have L2 := hide ((unhide L1).below b2)
  have N2 := hide ((unhide N1).below b2)
  have R2 := hide ((unhide R1).below b2)
  have B2 := hide ((unhide B1).trans (b2.mono (unhide B1).size))
  clear b2 A1 L1 N1 R1 B1
  clear l1 l1l
  have l2 := (unhide L2).cv
  have l2l := (unhide L2).lt
  cases hr : grB L with
  | false =>
    have HE : Hid (taB D L now de = false) := by show _ = _; rw [unhide hta, hr]; rfl
    clear HG HL HA HR HRL HT1 HT2 hta HO A2 L2 N2 hg hr hmf
    have r2 := (unhide R2).cv
    have r2f := (unhide R2).fz
    have r2l := (unhide R2).lt
    go_wp2
    refine bodyPost_ret (v := .tuple #[.agg spaceZ.toArray, .slice none 0 0, .slice none 0 0, .bool false]) (by simp [results, Try.results5, go_sem, r2]) rfl (unhide NO _ (unhide HE) ?_)
    iterate 7 refine Below.setCell ?_ (by simp <;> omega) _
    exact unhide B2
  | true =>
  rw [hr] at hta
  by_cases h0 : L.length = 0
  · have t0 : ((L.length : Int) == 0) = true := beq_iff_eq.2 (by omega)
    have HE : Hid (taB D L now de = false) := by show _ = _; rw [unhide hta, h0]; rfl
    clear HG HL HA HR HRL HT1 HT2 hta HO A2 L2 N2 hg hr h0 hmf
    have r2 := (unhide R2).cv
    have r2f := (unhide R2).fz
    have r2l := (unhide R2).lt
    go_wp2
    refine bodyPost_ret (v := .tuple #[.agg spaceZ.toArray, .slice none 0 0, .slice none 0 0, .bool false]) (by simp [results, Try.results5, go_sem, r2]) rfl (unhide NO _ (unhide HE) ?_)
    iterate 7 refine Below.setCell ?_ (by simp <;> omega) _
    exact unhide B2
  have t0 : ((L.length : Int) == 0) = false := beq_eq_false_iff_ne.2 (by omega)
  rw [decide_eq_true h0] at hta
  go_upto_region 3 with fail
  clear l2 l2l
  cases hk : tkB now with
  | false =>
    rw [hk] at HT1
    refine wp_region_noPanic ?_
    refine wp_region_held_drew (S := fun V => Bx V W.heap.size (spaceC D a c) ∧ Bx V (W.heap.size + 1) [.slice aL L.length cL] ∧ Bx V (W.heap.size + 1 + 1) [.int .i64 now] ∧ Bx V (W.heap.size + 1 + 1 + 1) spaceZ ∧ Below W.heap.size W V) (by kernel_rfl) (⟨(unhide A2).drew, (unhide L2).drew, (unhide N2).drew, (unhide R2).drew, (unhide B2).drew⟩) (fun hHeld => ?_)
    refine wpAnyH_take (i := 0) (v := ?_) rfl (by kernel_rfl) (by kernel_rfl) (by kernel_rfl) (fun _ _ _ h => h) (Or.inl ⟨by rfl, ?_⟩) hHeld ?_
    rotate_left
    · intro V hSw; have y1 := hSw.1.cv; have y2 := hSw.2.2.1.cv; have y3 := hSw.2.2.1.lt; go_simp; rfl
    try simp only [Act.put, List.getElem_toArray, List.getElem_cons_zero, List.setIfInBounds_toArray, List.set_cons_zero, List.set_cons_succ]
    refine wpAnyH_ready (rs := [1]) (by kernel_rfl) (by simp) ?_
    refine AllReadyH.cons rfl (fun K hK => ?_) AllReadyH.nil
    go_simp
    go_at_call 14
    with_reducible refine (unhide HT1 _).mono ?_
    rintro e w9 ⟨rfl, h9⟩
    rw [h9]
    clear h9 w9
    refine hK.out _ _ (hHeld) (fun hHeld => ?_)
    clear hK K
    try simp only [Act.put, List.getElem_toArray, List.getElem_cons_succ, List.getElem_cons_zero, List.setIfInBounds_toArray, List.set_cons_zero, List.set_cons_succ]
    refine wpAnyH_take (i := 2) (v := ?_) rfl (by kernel_rfl) (by kernel_rfl) (by kernel_rfl) (fun _ _ _ h => h) (Or.inl ⟨by rfl, ?_⟩) hHeld ?_
    rotate_left
    · intro V hSw; have y1 := hSw.1.cv; have y2 := hSw.2.2.1.cv; have y3 := hSw.2.2.1.lt; go_simp; rfl
    try simp only [Act.put, List.getElem_toArray, List.getElem_cons_succ, List.getElem_cons_zero, List.setIfInBounds_toArray, List.set_cons_zero, List.set_cons_succ]
    refine wpAnyH_take (i := 3) (v := ?_) rfl (by kernel_rfl) (by kernel_rfl) (by kernel_rfl) (fun _ _ _ h => h) (Or.inl ⟨by rfl, ?_⟩) hHeld ?_
    rotate_left
    · intro V hSw; have y1 := hSw.1.cv; have y2 := hSw.2.2.1.cv; have y3 := hSw.2.2.1.lt; go_simp; rfl
    try simp only [Act.put, List.getElem_toArray, List.getElem_cons_succ, List.getElem_cons_zero, List.setIfInBounds_toArray, List.set_cons_zero, List.set_cons_succ]
    refine wpAnyH_take (i := 4) (v := undef) rfl (by kernel_rfl) (by kernel_rfl) (by kernel_rfl) (fun _ _ _ h => h) (Or.inr ⟨by rfl, rfl⟩) hHeld ?_
    try simp only [Act.put, List.getElem_toArray, List.getElem_cons_succ, List.getElem_cons_zero, List.setIfInBounds_toArray, List.set_cons_zero, List.set_cons_succ]
    refine wpAnyH_take (i := 5) (v := undef) rfl (by kernel_rfl) (by kernel_rfl) (by kernel_rfl) (fun _ _ _ h => h) (Or.inr ⟨by rfl, rfl⟩) hHeld ?_
    try simp only [Act.put, List.getElem_toArray, List.getElem_cons_succ, List.getElem_cons_zero, List.setIfInBounds_toArray, List.set_cons_zero, List.set_cons_succ]
    refine wpAnyH_take (i := 6) (v := undef) rfl (by kernel_rfl) (by kernel_rfl) (by kernel_rfl) (fun _ _ _ h => h) (Or.inr ⟨by rfl, rfl⟩) hHeld ?_
    try simp only [Act.put, List.getElem_toArray, List.getElem_cons_succ, List.getElem_cons_zero, List.setIfInBounds_toArray, List.set_cons_zero, List.set_cons_succ]
    refine wpAnyH_take (i := 7) (v := undef) rfl (by kernel_rfl) (by kernel_rfl) (by kernel_rfl) (fun _ _ _ h => h) (Or.inr ⟨by rfl, rfl⟩) hHeld ?_
    try simp only [Act.put, List.getElem_toArray, List.getElem_cons_succ, List.getElem_cons_zero, List.setIfInBounds_toArray, List.set_cons_zero, List.set_cons_succ]
    refine wpAnyH_take (i := 8) (v := undef) rfl (by kernel_rfl) (by kernel_rfl) (by kernel_rfl) (fun _ _ _ h => h) (Or.inr ⟨by rfl, rfl⟩) hHeld ?_
    try simp only [Act.put, List.getElem_toArray, List.getElem_cons_succ, List.getElem_cons_zero, List.setIfInBounds_toArray, List.set_cons_zero, List.set_cons_succ]
    refine wpAnyH_take (i := 9) (v := ?_) rfl (by kernel_rfl) (by kernel_rfl) (by kernel_rfl) (fun _ _ _ h => h) (Or.inl ⟨by rfl, ?_⟩) hHeld ?_
    rotate_left
    · intro V hSw; have y1 := hSw.1.cv; have y2 := hSw.2.2.1.cv; have y3 := hSw.2.2.1.lt; go_simp; rfl
    try simp only [Act.put, List.getElem_toArray, List.getElem_cons_succ, List.getElem_cons_zero, List.setIfInBounds_toArray, List.set_cons_zero, List.set_cons_succ]
    refine wpAnyH_take (i := 10) (v := ?_) rfl (by kernel_rfl) (by kernel_rfl) (by kernel_rfl) (fun _ _ _ h => h) (Or.inl ⟨by rfl, ?_⟩) hHeld ?_
    rotate_left
    · intro V hSw; have y1 := hSw.1.cv; have y2 := hSw.2.2.1.cv; have y3 := hSw.2.2.1.lt; go_simp; rfl
    try simp only [Act.put, List.getElem_toArray, List.getElem_cons_succ, List.getElem_cons_zero, List.setIfInBounds_toArray, List.set_cons_zero, List.set_cons_succ]
    refine wpAnyH_take (i := 11) (v := undef) rfl (by kernel_rfl) (by kernel_rfl) (by kernel_rfl) (fun _ _ _ h => h) (Or.inr ⟨by rfl, rfl⟩) hHeld ?_
    try simp only [Act.put, List.getElem_toArray, List.getElem_cons_succ, List.getElem_cons_zero, List.setIfInBounds_toArray, List.set_cons_zero, List.set_cons_succ]
    refine wpAnyH_take (i := 12) (v := undef) rfl (by kernel_rfl) (by kernel_rfl) (by kernel_rfl) (fun _ _ _ h => h) (Or.inr ⟨by rfl, rfl⟩) hHeld ?_
    try simp only [Act.put, List.getElem_toArray, List.getElem_cons_succ, List.getElem_cons_zero, List.setIfInBounds_toArray, List.set_cons_zero, List.set_cons_succ]
    refine wpAnyH_take (i := 13) (v := undef) rfl (by kernel_rfl) (by kernel_rfl) (by kernel_rfl) (fun _ _ _ h => h) (Or.inr ⟨by rfl, rfl⟩) hHeld ?_
    try simp only [Act.put, List.getElem_toArray, List.getElem_cons_succ, List.getElem_cons_zero, List.setIfInBounds_toArray, List.set_cons_zero, List.set_cons_succ]
    refine wpAnyH_take (i := 14) (v := ?_) rfl (by kernel_rfl) (by kernel_rfl) (by kernel_rfl) (fun _ _ _ h => h) (Or.inl ⟨by rfl, ?_⟩) hHeld ?_
    rotate_left
    · intro V hSw; have y1 := hSw.1.cv; have y2 := hSw.2.2.1.cv; have y3 := hSw.2.2.1.lt; go_simp; rfl
    try simp only [Act.put, List.getElem_toArray, List.getElem_cons_succ, List.getElem_cons_zero, List.setIfInBounds_toArray, List.set_cons_zero, List.set_cons_succ]
    refine wpAnyH_done (by kernel_rfl) ?_ _
    refine NoPanic.normal ?_
    obtain ⟨A3, L3, N3, R3, B3⟩ := hHeld
    replace A3 := hide A3
    replace L3 := hide L3
    replace N3 := hide N3
    replace R3 := hide R3
    replace B3 := hide B3
    generalize w2.drew = w3 at *
    clear A2 L2 N2 R2 B2
    have HE : Hid (taB D L now de = false) := by show _ = _; rw [unhide hta, hk]; rfl
    clear HG HL HA HR HRL HT1 HT2 hta HO A3 L3 N3 hg hr h0 hk hmf
    have r2 := (unhide R3).cv
    have r2f := (unhide R3).fz
    have r2l := (unhide R3).lt
    go_wp2
    refine bodyPost_ret (v := .tuple #[.agg spaceZ.toArray, .slice none 0 0, .slice none 0 0, .bool false]) (by simp [results, Try.results5, go_sem, r2]) rfl (unhide NO _ (unhide HE) ?_)
    iterate 7 refine Below.setCell ?_ (by simp <;> omega) _
    exact unhide B3
  | true =>
  rw [hk] at hta HT1
  have HLA := hide (rfl : (laS D.S).f1 = (laS D.S).f1)
  obtain ⟨lt, hlt⟩ : ∃ x, x = (laS D.S).f1 := ⟨_, rfl⟩
  rw [← hlt] at hta HA
  have HLT := hide hlt
  clear hlt HLA
  by_cases hl : lt ≤ now
  · have t1 : decide (now < lt) = false := decide_eq_false (by omega)
    rw [decide_eq_true hl] at hta
    cases hd : tkB de with
    | false =>
      rw [hd] at HT2
      refine wp_region_noPanic ?_
      refine wp_region_held_drew (S := fun V => Bx V W.heap.size (spaceC D a c) ∧ Bx V (W.heap.size + 1) [.slice aL L.length cL] ∧ Bx V (W.heap.size + 1 + 1) [.int .i64 now] ∧ Bx V (W.heap.size + 1 + 1 + 1) spaceZ ∧ Below W.heap.size W V) (by kernel_rfl) (⟨(unhide A2).drew, (unhide L2).drew, (unhide N2).drew, (unhide R2).drew, (unhide B2).drew⟩) (fun hHeld => ?_)
      refine wpAnyH_take (i := 0) (v := ?_) rfl (by kernel_rfl) (by kernel_rfl) (by kernel_rfl) (fun _ _ _ h => h) (Or.inl ⟨by rfl, ?_⟩) hHeld ?_
      rotate_left
      · intro V hSw; have y1 := hSw.1.cv; have y2 := hSw.2.2.1.cv; have y3 := hSw.2.2.1.lt; go_simp; rfl
      try simp only [Act.put, List.getElem_toArray, List.getElem_cons_zero, List.setIfInBounds_toArray, List.set_cons_zero, List.set_cons_succ]
      refine wpAnyH_ready (rs := [1]) (by kernel_rfl) (by simp) ?_
      refine AllReadyH.cons rfl (fun K hK => ?_) AllReadyH.nil
      go_simp
      go_at_call 14
      with_reducible refine (unhide HT1 _).mono ?_
      rintro e w9 ⟨rfl, h9⟩
      rw [h9]
      clear h9 w9
      refine hK.out _ _ (hHeld) (fun hHeld => ?_)
      clear hK K
      try simp only [Act.put, List.getElem_toArray, List.getElem_cons_succ, List.getElem_cons_zero, List.setIfInBounds_toArray, List.set_cons_zero, List.set_cons_succ]
      refine wpAnyH_take (i := 2) (v := ?_) rfl (by kernel_rfl) (by kernel_rfl) (by kernel_rfl) (fun _ _ _ h => h) (Or.inl ⟨by rfl, ?_⟩) hHeld ?_
      rotate_left
      · intro V hSw; have y1 := hSw.1.cv; have y2 := hSw.2.2.1.cv; have y3 := hSw.2.2.1.lt; go_simp; rfl
      try simp only [Act.put, List.getElem_toArray, List.getElem_cons_succ, List.getElem_cons_zero, List.setIfInBounds_toArray, List.set_cons_zero, List.set_cons_succ]
      refine wpAnyH_take (i := 3) (v := ?_) rfl (by kernel_rfl) (by kernel_rfl) (by kernel_rfl) (fun _ _ _ h => h) (Or.inl ⟨by rfl, ?_⟩) hHeld ?_
      rotate_left
      · intro V hSw; have y1 := hSw.1.cv; have y2 := hSw.2.2.1.cv; have y3 := hSw.2.2.1.lt; go_simp; rfl
      try simp only [Act.put, List.getElem_toArray, List.getElem_cons_succ, List.getElem_cons_zero, List.setIfInBounds_toArray, List.set_cons_zero, List.set_cons_succ]
      refine wpAnyH_take (i := 4) (v := ?_) rfl (by kernel_rfl) (by kernel_rfl) (by kernel_rfl) (fun _ _ _ h => h) (Or.inl ⟨by rfl, ?_⟩) hHeld ?_
      rotate_left
      · intro V hSw; have y1 := hSw.1.cv; have y2 := hSw.2.2.1.cv; have y3 := hSw.2.2.1.lt; go_simp; rfl
      try simp only [Act.put, List.getElem_toArray, List.getElem_cons_succ, List.getElem_cons_zero, List.setIfInBounds_toArray, List.set_cons_zero, List.set_cons_succ]
      refine wpAnyH_take (i := 5) (v := ?_) rfl (by kernel_rfl) (by kernel_rfl) (by kernel_rfl) (fun _ _ _ h => h) (Or.inl ⟨by rfl, ?_⟩) hHeld ?_
      rotate_left
      · intro V hSw; have y1 := hSw.1.cv; have y2 := hSw.2.2.1.cv; have y3 := hSw.2.2.1.lt; go_simp; rfl
      try simp only [Act.put, List.getElem_toArray, List.getElem_cons_succ, List.getElem_cons_zero, List.setIfInBounds_toArray, List.set_cons_zero, List.set_cons_succ]
      refine wpAnyH_take (i := 6) (v := ?_) rfl (by kernel_rfl) (by kernel_rfl) (by kernel_rfl) (fun _ _ _ h => h) (Or.inl ⟨by rfl, ?_⟩) hHeld ?_
      rotate_left
      · intro V hSw; have y1 := hSw.1.cv; have y2 := hSw.2.2.1.cv; have y3 := hSw.2.2.1.lt; go_simp; rfl
      try simp only [Act.put, List.getElem_toArray, List.getElem_cons_succ, List.getElem_cons_zero, List.setIfInBounds_toArray, List.set_cons_zero, List.set_cons_succ]
      refine wpAnyH_ready (rs := [7]) (by kernel_rfl) (by simp) ?_
      refine AllReadyH.cons rfl (fun K hK => ?_) AllReadyH.nil
      go_simp
      go_at_call 15
      with_reducible refine (unhide HA _ hHeld.2.2.2.2).mono ?_
      rintro e w9 ⟨rfl, h9⟩
      rw [h9]
      clear h9 w9
      refine hK.out _ _ (hHeld) (fun hHeld => ?_)
      clear hK K
      try simp only [Act.put, List.getElem_toArray, List.getElem_cons_succ, List.getElem_cons_zero, List.setIfInBounds_toArray, List.set_cons_zero, List.set_cons_succ]
      refine wpAnyH_take (i := 8) (v := ?_) rfl (by kernel_rfl) (by kernel_rfl) (by kernel_rfl) (fun _ _ _ h => h) (Or.inl ⟨by rfl, ?_⟩) hHeld ?_
      rotate_left
      · intro V hSw; have y1 := hSw.1.cv; have y2 := hSw.2.2.1.cv; have y3 := hSw.2.2.1.lt; go_simp; rfl
      try simp only [Act.put, List.getElem_toArray, List.getElem_cons_succ, List.getElem_cons_zero, List.setIfInBounds_toArray, List.set_cons_zero, List.set_cons_succ]
      refine wpAnyH_take (i := 9) (v := ?_) rfl (by kernel_rfl) (by kernel_rfl) (by kernel_rfl) (fun _ _ _ h => h) (Or.inl ⟨by rfl, ?_⟩) hHeld ?_
      rotate_left
      · intro V hSw; have y1 := hSw.1.cv; have y2 := hSw.2.2.1.cv; have y3 := hSw.2.2.1.lt; go_simp; rfl
      try simp only [Act.put, List.getElem_toArray, List.getElem_cons_succ, List.getElem_cons_zero, List.setIfInBounds_toArray, List.set_cons_zero, List.set_cons_succ]
      refine wpAnyH_take (i := 10) (v := ?_) rfl (by kernel_rfl) (by kernel_rfl) (by kernel_rfl) (fun _ _ _ h => h) (Or.inl ⟨by rfl, ?_⟩) hHeld ?_
      rotate_left
      · intro V hSw; have y1 := hSw.1.cv; have y2 := hSw.2.2.1.cv; have y3 := hSw.2.2.1.lt; go_simp; rfl
      try simp only [Act.put, List.getElem_toArray, List.getElem_cons_succ, List.getElem_cons_zero, List.setIfInBounds_toArray, List.set_cons_zero, List.set_cons_succ]
      refine wpAnyH_take (i := 11) (v := ?_) rfl (by kernel_rfl) (by kernel_rfl) (by kernel_rfl) (fun _ _ _ h => h) (Or.inl ⟨by rfl, ?_⟩) hHeld ?_
      rotate_left
      · intro V hSw; have y1 := hSw.1.cv; have y2 := hSw.2.2.1.cv; have y3 := hSw.2.2.1.lt; go_simp; rfl
      try simp only [Act.put, List.getElem_toArray, List.getElem_cons_succ, List.getElem_cons_zero, List.setIfInBounds_toArray, List.set_cons_zero, List.set_cons_succ]
      refine wpAnyH_ready (rs := [12]) (by kernel_rfl) (by simp) ?_
      refine AllReadyH.cons rfl (fun K hK => ?_) AllReadyH.nil
      go_simp
      go_at_call 14
      with_reducible refine (unhide HT2 _).mono ?_
      rintro e w9 ⟨rfl, h9⟩
      rw [h9]
      clear h9 w9
      refine hK.out _ _ (hHeld) (fun hHeld => ?_)
      clear hK K
      try simp only [Act.put, List.getElem_toArray, List.getElem_cons_succ, List.getElem_cons_zero, List.setIfInBounds_toArray, List.set_cons_zero, List.set_cons_succ]
      refine wpAnyH_take (i := 13) (v := ?_) rfl (by kernel_rfl) (by kernel_rfl) (by kernel_rfl) (fun _ _ _ h => h) (Or.inl ⟨by rfl, ?_⟩) hHeld ?_
      rotate_left
      · intro V hSw; have y1 := hSw.1.cv; have y2 := hSw.2.2.1.cv; have y3 := hSw.2.2.1.lt; go_simp; rfl
      try simp only [Act.put, List.getElem_toArray, List.getElem_cons_succ, List.getElem_cons_zero, List.setIfInBounds_toArray, List.set_cons_zero, List.set_cons_succ]
      refine wpAnyH_take (i := 14) (v := ?_) rfl (by kernel_rfl) (by kernel_rfl) (by kernel_rfl) (fun _ _ _ h => h) (Or.inl ⟨by rfl, ?_⟩) hHeld ?_
      rotate_left
      · intro V hSw; have y1 := hSw.1.cv; have y2 := hSw.2.2.1.cv; have y3 := hSw.2.2.1.lt; go_simp; rfl
      try simp only [Act.put, List.getElem_toArray, List.getElem_cons_succ, List.getElem_cons_zero, List.setIfInBounds_toArray, List.set_cons_zero, List.set_cons_succ]
      refine wpAnyH_done (by kernel_rfl) ?_ _
      refine NoPanic.normal ?_
      obtain ⟨A3, L3, N3, R3, B3⟩ := hHeld
      replace A3 := hide A3
      replace L3 := hide L3
      replace N3 := hide N3
      replace R3 := hide R3
      replace B3 := hide B3
      generalize w2.drew = w3 at *
      clear A2 L2 N2 R2 B2
      have HE : Hid (taB D L now de = false) := by show _ = _; rw [unhide hta, hd]; rfl
      clear HG HL HA HR HRL HT1 HT2 hta HO A3 L3 N3 hg hr h0 hk hd hmf HLT
      have r2 := (unhide R3).cv
      have r2f := (unhide R3).fz
      have r2l := (unhide R3).lt
      go_wp2
      refine bodyPost_ret (v := .tuple #[.agg spaceZ.toArray, .slice none 0 0, .slice none 0 0, .bool false]) (by simp [results, Try.results5, go_sem, r2]) rfl (unhide NO _ (unhide HE) ?_)
      iterate 7 refine Below.setCell ?_ (by simp <;> omega) _
      exact unhide B3
    | true =>
    rw [hd] at hta HT2
    refine wp_region_noPanic ?_
    refine wp_region_held_drew (S := fun V => Bx V W.heap.size (spaceC D a c) ∧ Bx V (W.heap.size + 1) [.slice aL L.length cL] ∧ Bx V (W.heap.size + 1 + 1) [.int .i64 now] ∧ Bx V (W.heap.size + 1 + 1 + 1) spaceZ ∧ Below W.heap.size W V) (by kernel_rfl) (⟨(unhide A2).drew, (unhide L2).drew, (unhide N2).drew, (unhide R2).drew, (unhide B2).drew⟩) (fun hHeld => ?_)
    refine wpAnyH_take (i := 0) (v := ?_) rfl (by kernel_rfl) (by kernel_rfl) (by kernel_rfl) (fun _ _ _ h => h) (Or.inl ⟨by rfl, ?_⟩) hHeld ?_
    rotate_left
    · intro V hSw; have y1 := hSw.1.cv; have y2 := hSw.2.2.1.cv; have y3 := hSw.2.2.1.lt; go_simp; rfl
    try simp only [Act.put, List.getElem_toArray, List.getElem_cons_zero, List.setIfInBounds_toArray, List.set_cons_zero, List.set_cons_succ]
    refine wpAnyH_ready (rs := [1]) (by kernel_rfl) (by simp) ?_
    refine AllReadyH.cons rfl (fun K hK => ?_) AllReadyH.nil
    go_simp
    go_at_call 14
    with_reducible refine (unhide HT1 _).mono ?_
    rintro e w9 ⟨rfl, h9⟩
    rw [h9]
    clear h9 w9
    refine hK.out _ _ (hHeld) (fun hHeld => ?_)
    clear hK K
    try simp only [Act.put, List.getElem_toArray, List.getElem_cons_succ, List.getElem_cons_zero, List.setIfInBounds_toArray, List.set_cons_zero, List.set_cons_succ]
    refine wpAnyH_take (i := 2) (v := ?_) rfl (by kernel_rfl) (by kernel_rfl) (by kernel_rfl) (fun _ _ _ h => h) (Or.inl ⟨by rfl, ?_⟩) hHeld ?_
    rotate_left
    · intro V hSw; have y1 := hSw.1.cv; have y2 := hSw.2.2.1.cv; have y3 := hSw.2.2.1.lt; go_simp; rfl
    try simp only [Act.put, List.getElem_toArray, List.getElem_cons_succ, List.getElem_cons_zero, List.setIfInBounds_toArray, List.set_cons_zero, List.set_cons_succ]
    refine wpAnyH_take (i := 3) (v := ?_) rfl (by kernel_rfl) (by kernel_rfl) (by kernel_rfl) (fun _ _ _ h => h) (Or.inl ⟨by rfl, ?_⟩) hHeld ?_
    rotate_left
    · intro V hSw; have y1 := hSw.1.cv; have y2 := hSw.2.2.1.cv; have y3 := hSw.2.2.1.lt; go_simp; rfl
    try simp only [Act.put, List.getElem_toArray, List.getElem_cons_succ, List.getElem_cons_zero, List.setIfInBounds_toArray, List.set_cons_zero, List.set_cons_succ]
    refine wpAnyH_take (i := 4) (v := ?_) rfl (by kernel_rfl) (by kernel_rfl) (by kernel_rfl) (fun _ _ _ h => h) (Or.inl ⟨by rfl, ?_⟩) hHeld ?_
    rotate_left
    · intro V hSw; have y1 := hSw.1.cv; have y2 := hSw.2.2.1.cv; have y3 := hSw.2.2.1.lt; go_simp; rfl
    try simp only [Act.put, List.getElem_toArray, List.getElem_cons_succ, List.getElem_cons_zero, List.setIfInBounds_toArray, List.set_cons_zero, List.set_cons_succ]
    refine wpAnyH_take (i := 5) (v := ?_) rfl (by kernel_rfl) (by kernel_rfl) (by kernel_rfl) (fun _ _ _ h => h) (Or.inl ⟨by rfl, ?_⟩) hHeld ?_
    rotate_left
    · intro V hSw; have y1 := hSw.1.cv; have y2 := hSw.2.2.1.cv; have y3 := hSw.2.2.1.lt; go_simp; rfl
    try simp only [Act.put, List.getElem_toArray, List.getElem_cons_succ, List.getElem_cons_zero, List.setIfInBounds_toArray, List.set_cons_zero, List.set_cons_succ]
    refine wpAnyH_take (i := 6) (v := ?_) rfl (by kernel_rfl) (by kernel_rfl) (by kernel_rfl) (fun _ _ _ h => h) (Or.inl ⟨by rfl, ?_⟩) hHeld ?_
    rotate_left
    · intro V hSw; have y1 := hSw.1.cv; have y2 := hSw.2.2.1.cv; have y3 := hSw.2.2.1.lt; go_simp; rfl
    try simp only [Act.put, List.getElem_toArray, List.getElem_cons_succ, List.getElem_cons_zero, List.setIfInBounds_toArray, List.set_cons_zero, List.set_cons_succ]
    refine wpAnyH_ready (rs := [7]) (by kernel_rfl) (by simp) ?_
    refine AllReadyH.cons rfl (fun K hK => ?_) AllReadyH.nil
    go_simp
    go_at_call 15
    with_reducible refine (unhide HA _ hHeld.2.2.2.2).mono ?_
    rintro e w9 ⟨rfl, h9⟩
    rw [h9]
    clear h9 w9
    refine hK.out _ _ (hHeld) (fun hHeld => ?_)
    clear hK K
    try simp only [Act.put, List.getElem_toArray, List.getElem_cons_succ, List.getElem_cons_zero, List.setIfInBounds_toArray, List.set_cons_zero, List.set_cons_succ]
    refine wpAnyH_take (i := 8) (v := ?_) rfl (by kernel_rfl) (by kernel_rfl) (by kernel_rfl) (fun _ _ _ h => h) (Or.inl ⟨by rfl, ?_⟩) hHeld ?_
    rotate_left
    · intro V hSw; have y1 := hSw.1.cv; have y2 := hSw.2.2.1.cv; have y3 := hSw.2.2.1.lt; go_simp; rfl
    try simp only [Act.put, List.getElem_toArray, List.getElem_cons_succ, List.getElem_cons_zero, List.setIfInBounds_toArray, List.set_cons_zero, List.set_cons_succ]
    refine wpAnyH_take (i := 9) (v := ?_) rfl (by kernel_rfl) (by kernel_rfl) (by kernel_rfl) (fun _ _ _ h => h) (Or.inl ⟨by rfl, ?_⟩) hHeld ?_
    rotate_left
    · intro V hSw; have y1 := hSw.1.cv; have y2 := hSw.2.2.1.cv; have y3 := hSw.2.2.1.lt; go_simp; rfl
    try simp only [Act.put, List.getElem_toArray, List.getElem_cons_succ, List.getElem_cons_zero, List.setIfInBounds_toArray, List.set_cons_zero, List.set_cons_succ]
    refine wpAnyH_take (i := 10) (v := ?_) rfl (by kernel_rfl) (by kernel_rfl) (by kernel_rfl) (fun _ _ _ h => h) (Or.inl ⟨by rfl, ?_⟩) hHeld ?_
    rotate_left
    · intro V hSw; have y1 := hSw.1.cv; have y2 := hSw.2.2.1.cv; have y3 := hSw.2.2.1.lt; go_simp; rfl
    try simp only [Act.put, List.getElem_toArray, List.getElem_cons_succ, List.getElem_cons_zero, List.setIfInBounds_toArray, List.set_cons_zero, List.set_cons_succ]
    refine wpAnyH_take (i := 11) (v := ?_) rfl (by kernel_rfl) (by kernel_rfl) (by kernel_rfl) (fun _ _ _ h => h) (Or.inl ⟨by rfl, ?_⟩) hHeld ?_
    rotate_left
    · intro V hSw; have y1 := hSw.1.cv; have y2 := hSw.2.2.1.cv; have y3 := hSw.2.2.1.lt; go_simp; rfl
    try simp only [Act.put, List.getElem_toArray, List.getElem_cons_succ, List.getElem_cons_zero, List.setIfInBounds_toArray, List.set_cons_zero, List.set_cons_succ]
    refine wpAnyH_ready (rs := [12]) (by kernel_rfl) (by simp) ?_
    refine AllReadyH.cons rfl (fun K hK => ?_) AllReadyH.nil
    go_simp
    go_at_call 14
    with_reducible refine (unhide HT2 _).mono ?_
    rintro e w9 ⟨rfl, h9⟩
    rw [h9]
    clear h9 w9
    refine hK.out _ _ (hHeld) (fun hHeld => ?_)
    clear hK K
    try simp only [Act.put, List.getElem_toArray, List.getElem_cons_succ, List.getElem_cons_zero, List.setIfInBounds_toArray, List.set_cons_zero, List.set_cons_succ]
    refine wpAnyH_take (i := 13) (v := ?_) rfl (by kernel_rfl) (by kernel_rfl) (by kernel_rfl) (fun _ _ _ h => h) (Or.inl ⟨by rfl, ?_⟩) hHeld ?_
    rotate_left
    · intro V hSw; have y1 := hSw.1.cv; have y2 := hSw.2.2.1.cv; have y3 := hSw.2.2.1.lt; go_simp; rfl
    try simp only [Act.put, List.getElem_toArray, List.getElem_cons_succ, List.getElem_cons_zero, List.setIfInBounds_toArray, List.set_cons_zero, List.set_cons_succ]
    refine wpAnyH_take (i := 14) (v := ?_) rfl (by kernel_rfl) (by kernel_rfl) (by kernel_rfl) (fun _ _ _ h => h) (Or.inl ⟨by rfl, ?_⟩) hHeld ?_
    rotate_left
    · intro V hSw; have y1 := hSw.1.cv; have y2 := hSw.2.2.1.cv; have y3 := hSw.2.2.1.lt; go_simp; rfl
    try simp only [Act.put, List.getElem_toArray, List.getElem_cons_succ, List.getElem_cons_zero, List.setIfInBounds_toArray, List.set_cons_zero, List.set_cons_succ]
    refine wpAnyH_done (by kernel_rfl) ?_ _
    refine NoPanic.normal ?_
    obtain ⟨A3, L3, N3, R3, B3⟩ := hHeld
    replace A3 := hide A3
    replace L3 := hide L3
    replace N3 := hide N3
    replace R3 := hide R3
    replace B3 := hide B3
    generalize w2.drew = w3 at *
    clear A2 L2 N2 R2 B2
    have HE : Hid (taB D L now de = true) := by show _ = _; rw [unhide hta]; rfl
    have YES : Hid (∀ (G : Int) (R : RttD), G = taG D L → R = taR D L now de → ∀ (V : World) (a0 : Option Addr) (c0 : Nat) (a1 : Option Addr) (c1 : Nat) (a2 : Option Addr) (c2 g0 g1 g2 : Nat), ((lfS L D.S).filter fun x => !loB G now R x).length ≤ c0 → Rb sentK W.heap.size V a0 ((lfS L D.S).filter fun x => !loB G now R x) g0 → Rb intK W.heap.size V a1 ((akS L D.S).map fun x => x.f0) g1 → Rb intK W.heap.size V a2 (((lfS L D.S).filter fun x => loB G now R x).map fun x => x.f0) g2 → g0 ≠ g1 → g0 ≠ g2 → g1 ≠ g2 → Below W.heap.size W V → TAPc D L now de W (.returned (.tuple #[.agg #[.int .i64 G, .slice a0 ((lfS L D.S).filter fun x => !loB G now R x).length c0, .bool R.kn, .int .i64 R.la, .int .i64 R.mi, .int .i64 R.sm, .int .i64 R.va], .slice a1 ((akS L D.S).map fun x => x.f0).length c1, .slice a2 (((lfS L D.S).filter fun x => loB G now R x).map fun x => x.f0).length c2, .bool true])) V) := fun G R hG hR V a0 c0 a1 c1 a2 c2 g0 g1 g2 hc h0 h1 h2 n0 n1 n2 b => by
      subst hG
      subst hR
      exact TAPc.yes (unhide HE) hc h0 h1 h2 n0 n1 n2 b
    clear hta NO HG HL HA HT1 HT2
    obtain ⟨hS, hlg0, hlg1, h60, hrt⟩ := gs_parts hg
    have HTK : Hid (∀ x ∈ D.S, tkB (now - x.f1) = true) := fun x hx => tick_in hg hk (by rw [← unhide HLT]; exact hl) hx
    have HTI : Hid (∀ x ∈ D.S, 0 ≤ x.f1 ∧ x.f1 ≤ now) := fun x hx => by
      have := time_in hS hx
      rw [← unhide HLT] at this
      exact ⟨this.1, Int.le_trans this.2.1 hl⟩
    have HDE := hide hd
    have HRT := hide hrt
    obtain ⟨n0, n1⟩ := tkB_yes hk
    clear hS hrt hg hr hk hd HLT t1 hl
    obtain ⟨bL, oL, rfl, hLt, hel⟩ : ∃ b o, aL = some ⟨b, o, none⟩ ∧ b < w3.heap.size ∧ ∀ q, q < L.length * rangeK.m → w3.cell? ⟨b, o + q, none⟩ = some (cl rangeK L q) := by
      rcases unhide HRL w3 (unhide B3) with h9 | h9
      · rw [h9] at h0; exact absurd rfl h0
      · exact h9
    have x3 := range_r1 hel (show 0 < L.length by omega)
    rw [Nat.zero_mul, Nat.add_zero] at x3
    have hLl : (0 : Int) < (L.length : Int) := by omega
    have hLo := (unhide HO 0 (by omega))
    obtain ⟨⟨_, _⟩, u2, u3⟩ : (-9223372036854775808 ≤ (gt rangeK L 0).f0 ∧ (gt rangeK L 0).f0 ≤ 9223372036854775807) ∧ (-9223372036854775808 ≤ (gt rangeK L 0).f1 ∧ (gt rangeK L 0).f1 ≤ 9223372036854775807) := hLo
    have HEG : Hid (taG D L = mxI D.lg (gt rangeK L 0).f1) := rfl
    have HER : Hid (∀ M, M = akS L D.S → taR D L now de = M.foldl (rtF (gt rangeK L 0).f1 now de) D.r) := fun M h => by rw [h]; rfl
    generalize (gt rangeK L 0).f1 = hi at *
    have a3 := (unhide A3).cv
    have a3f := (unhide A3).fz
    have a3l := (unhide A3).lt
    have l3 := (unhide L3).cv
    have l3l := (unhide L3).lt
    clear hel HO
    go_upto_region 6 with fail
    go_cut [] (fun wx => Hid (Bx wx W.heap.size (spaceC ⟨taG D L, D.S, D.r⟩ a c)) ∧ Hid (Kq (fun q => q = W.heap.size) w3 wx))
    case first =>
      by_cases hlt : D.lg < hi
      · have e9 : taG D L = hi := by rw [unhide HEG]; unfold mxI; rw [if_pos hlt]
        have A5 : Hid (Bx (w3.setCell ⟨W.heap.size, 0, none⟩ (.int .i64 hi)) W.heap.size (spaceC ⟨taG D L, D.S, D.r⟩ a c)) := by show Bx _ _ _; rw [e9]; exact (unhide A3).set (i := 0) (by simp)
        have K5 : Hid (Kq (fun q => q = W.heap.size) w3 (w3.setCell ⟨W.heap.size, 0, none⟩ (.int .i64 hi))) := (Kq.refl _ _).set rfl
        clear e9 HRL HR HTK HTI HDE HRT HER HEG HE YES A3 L3 N3 R3 B3 l3 l3l x3
        go_wp2
        go_meet
        exact ⟨A5, K5⟩
      · have e9 : taG D L = D.lg := by rw [unhide HEG]; unfold mxI; rw [if_neg hlt]
        have A5 : Hid (Bx (w3.setCell ⟨W.heap.size, 0, none⟩ (.int .i64 D.lg)) W.heap.size (spaceC ⟨taG D L, D.S, D.r⟩ a c)) := by show Bx _ _ _; rw [e9]; exact (unhide A3).set (i := 0) (by simp)
        have K5 : Hid (Kq (fun q => q = W.heap.size) w3 (w3.setCell ⟨W.heap.size, 0, none⟩ (.int .i64 D.lg))) := (Kq.refl _ _).set rfl
        clear e9 HRL HR HTK HTI HDE HRT HER HEG HE YES A3 L3 N3 R3 B3 l3 l3l x3
        go_wp2
        go_meet
        exact ⟨A5, K5⟩
    case rest =>
    obtain ⟨A5, K5⟩ := hcut
    obtain ⟨w5, hw5⟩ : ∃ V, V = wc := ⟨_, rfl⟩
    rw [← hw5] at A5 K5 ⊢
    have L5 := hide ((unhide L3).kept (unhide K5).size ((unhide K5).block _ (unhide L3).lt (by omega)))
    have N5 := hide ((unhide N3).kept (unhide K5).size ((unhide K5).block _ (unhide N3).lt (by omega)))
    have R5 := hide ((unhide R3).kept (unhide K5).size ((unhide K5).block _ (unhide R3).lt (by omega)))
    have B5 := hide ((unhide B3).trans ((unhide K5).below (base := W.heap.size) (unhide B3).size (fun q hq => by omega)))
    clear hw5 A3 L3 N3 R3 B3 K5 a3 a3f a3l l3 l3l x3 hLt
    obtain ⟨lg0, lg1⟩ : -1 ≤ taG D L ∧ taG D L ≤ 9223372036854775807 := by rw [unhide HEG]; unfold mxI; split <;> omega
    generalize taG D L = lg at *
    clear HEG hlg0 hlg1
    have HLs := hide (listSent a c D.S w5 hn (unhide HR w5 (unhide B5)))
    have a5 := (unhide A5).cv
    have a5l := (unhide A5).lt
    go_wp2_with fail
    refine (unhide HLs).mono ?_
    rintro e w7 ⟨v7, rfl, o7, b7⟩
    obtain ⟨a7, c7, rfl, _, i7⟩ := o7.form
    obtain ⟨V7, hV7⟩ : ∃ V, V = w7.alloc (.cells #[.slice a7 D.S.length c7] 55) := ⟨_, rfl⟩
    have hAl : Below w7.heap.size w7 V7 := by rw [hV7]; exact (Below.refl _ _).alloc (Nat.le_refl _) _
    have bV := b7.trans (hAl.mono b7.size)
    have G7 := (show Bx V7 w7.heap.size [.slice a7 D.S.length c7] by rw [hV7]; exact Bx.new w7 _ _)
    have A7 := hide ((unhide A5).below bV)
    have L7 := hide ((unhide L5).below bV)
    have N7 := hide ((unhide N5).below bV)
    have R7 := hide ((unhide R5).below bV)
    have B7 := hide ((unhide B5).trans (bV.mono (unhide B5).size))
    have HP := hide (parted1 (fun x => hasB L x.f0) w7.heap.size a7 c7 D.S V7 (W.heap.size + 1) (by omega) G7 ((Ri.rd i7).below hAl) (fun V b x => cl1 x (W.heap.size + 1) _ cL L V hm ((unhide L7).below b) (unhide HRL V ((unhide B7).trans (b.mono (unhide B7).size)))))
    have hs7 : W.heap.size + 1 + 1 + 1 < w5.heap.size := (unhide R5).lt
    have hs7b := b7.size
    have hs7c := hAl.size
    have g7l := G7.lt
    have HV7 := hide hV7
    clear hV7 hAl bV G7 o7 i7 b7 A5 L5 N5 R5 B5 a5 a5l HLs
    go_upto_region 8 with fail
    rw [← unhide HV7]
    clear HV7
    go_wp2_with fail
    refine (unhide HP).mono ?_
    rintro e w8 ⟨v1, v2, rfl, o1, o2, dj, b8⟩
    replace o1 : Ro sentK 37 V7.heap.size w8 v1 (akS L D.S) := o1
    replace o2 : Ro sentK 37 V7.heap.size w8 v2 (lfS L D.S) := o2
    obtain ⟨aA, cA, rfl, _, i1⟩ := o1.form
    obtain ⟨aM, cM, rfl, _, i2⟩ := o2.form
    obtain ⟨V8, hV8⟩ : ∃ V, V = (w8.alloc (.cells #[.slice aA (akS L D.S).length cA] 55)).alloc (.cells #[.slice aM (lfS L D.S).length cM] 55) := ⟨_, rfl⟩
    have hAl : Below w8.heap.size w8 V8 := by rw [hV8]; exact ((Below.refl _ _).alloc (Nat.le_refl _) _).alloc (by simp) _
    have bV := b8.trans (hAl.mono b8.size)
    have P14 := hide (show Bx V8 w8.heap.size [.slice aA (akS L D.S).length cA] by rw [hV8]; exact (Bx.new w8 _ _).alloc _)
    have P15 := hide (show Bx V8 (w8.heap.size + 1) [.slice aM (lfS L D.S).length cM] by rw [hV8]; exact Bx.newAt (w8.alloc _) _ _ _ (by simp))
    have A8 := hide ((unhide A7).below bV)
    have L8 := hide ((unhide L7).below bV)
    have N8 := hide ((unhide N7).below bV)
    have R8 := hide ((unhide R7).below bV)
    have B8 := hide ((unhide B7).trans (bV.mono (unhide B7).size))
    have D1 := hide (i1.below hAl)
    have D2 := hide (i2.below hAl)
    have hs8 := b8.size
    have hs8b := (unhide P15).lt
    have HAm : Hid (∀ x ∈ akS L D.S, tkB (now - x.f1) = true) := fun x hx => unhide HTK x (ak_mem hx)
    have HAi : Hid (∀ x ∈ akS L D.S, 0 ≤ x.f1 ∧ x.f1 ≤ now) := fun x hx => unhide HTI x (ak_mem hx)
    have hA60 : (akS L D.S).length ≤ 60 := by
      have h1 := List.length_filter_le (fun x : SentD => hasB L x.f0) D.S
      show (D.S.filter _).length ≤ 60
      omega
    have hM60 : (lfS L D.S).length ≤ 60 := by
      have h1 := List.length_filter_le (fun x : SentD => !hasB L x.f0) D.S
      show (D.S.filter _).length ≤ 60
      omega
    have HV8 := hide hV8
    clear hV8 hAl bV o1 o2 i1 i2 b8 dj A7 L7 N7 R7 B7 HP HTK HTI HR HRL
    generalize akS L D.S = A at *
    generalize lfS L D.S = M at *
    have p14 := (unhide P14).cv
    have p14l := (unhide P14).lt
    go_upto_region 9 with fail
    rw [← unhide HV8]
    clear HV8
    go_wp2_with fail
    go_loopw [70] (fun iv wr => ∃ k : Nat, k ≤ A.length ∧ iv = .int .i64 k ∧ Hid (Bx wr W.heap.size (spaceC ⟨lg, D.S, (A.take k).foldl (rtF hi now de) D.r⟩ a c)) ∧ Hid (Kq (fun q => q = W.heap.size) V8 wr)) (fun iv _ => A.length - (intOf iv).toNat)
    case atStart => exact ⟨0, Nat.zero_le _, rfl, A8, Kq.refl _ _⟩
    case round =>
      obtain ⟨k, hk, rfl, hX, hK⟩ := hrel
      have sK := (unhide hK).size
      clear A8 p14 p14l
      by_cases hlt : k < A.length
      · rcases ((unhide D1).kq (unhide hK) (fun q hq => Or.inl (by omega))).rd with h9 | ⟨b, o, rfl, _, hel⟩
        · rw [h9] at hlt; exact absurd hlt (Nat.not_lt_zero _)
        have c0 := sent_r0 hel hlt
        have c1 := sent_r1 hel hlt
        have c2 := sent_r2 hel hlt
        have hmem := gt_mem sentK A k hlt
        obtain ⟨xt0, xt1⟩ := unhide HAi _ hmem
        have xtk := unhide HAm _ hmem
        have hrg : rtB ((A.take k).foldl (rtF hi now de) D.r) = true := rt_fold (unhide HDE) _ _ (fun y hy => unhide HAm y (List.mem_of_mem_take hy)) (unhide HRT)
        have ER : Hid ((A.take (k + 1)).foldl (rtF hi now de) D.r = rtF hi now de ((A.take k).foldl (rtF hi now de) D.r) (gt sentK A k)) := by show _ = _; rw [take_gt hlt, List.foldl_append]; rfl
        generalize (A.take k).foldl (rtF hi now de) D.r = r at *
        generalize gt sentK A k = x at *
        obtain ⟨x0, x1, x2⟩ := x
        dsimp only at xt0 xt1 xtk
        obtain ⟨W1, hW1⟩ : ∃ V, V = wr.alloc (.cells #[.int .i64 x0, .int .i64 x1, .int .i64 x2] 37) := ⟨_, rfl⟩
        have hAl : Below wr.heap.size wr W1 := by rw [hW1]; exact (Below.refl _ _).alloc (Nat.le_refl _) _
        have Y1 := hide (show Bx W1 wr.heap.size (sentC ⟨x0, x1, x2⟩) by rw [hW1]; exact Bx.new wr _ _)
        have X1 := hide ((unhide hX).below hAl)
        have K1 := hide ((unhide hK).trans (Kq.of hAl))
        have N1 := (unhide N8).kept (unhide K1).size ((unhide K1).block _ (unhide N8).lt (by omega))
        have y1 := (unhide Y1).cv
        have y1l := (unhide Y1).lt
        have x1c := (unhide X1).cv
        have x1l := (unhide X1).lt
        have n1c := N1.cv
        have n1l := N1.lt
        have HW1 := hide hW1
        have hnk : (k : Int) < (A.length : Int) := by omega
        have hk0 : (0 : Int) ≤ (k : Int) := by omega
        clear hAl hW1 hX hK hel hmem N1
        go_upto_region 12 with fail
        rw [← unhide HW1]
        clear HW1
        by_cases he : x0 = hi
        · subst he
          have er : rtF x0 now de r ⟨x0, x1, x2⟩ = smD r (now - x1) de := by unfold rtF; rw [if_pos rfl]
          rw [er] at ER
          have HS := hide (implSRw r (now - x1) de)
          obtain ⟨e1, e2⟩ := sr_sm hrg xtk (unhide HDE)
          rw [e1, e2] at HS
          have ws : IntKind.i64.wrap (now - x1) = now - x1 := wraps_i64 _ (by omega) (by omega)
          clear er e1 e2 hrg xtk
          go_wp2_with fail
          refine (unhide HS _).mono ?_
          rintro e w5 ⟨rfl, b5⟩
          have X5 := (unhide X1).below b5
          have x5 := X5.cv
          have x5f := X5.fz
          have x5l := X5.lt
          have K5 := (unhide K1).trans (Kq.of b5)
          generalize smD r (now - x1) de = r' at *
          obtain ⟨kn, la, mi, sm, va⟩ := r'
          obtain ⟨w6, hw6⟩ : ∃ V, V = ((((w5.setCell ⟨W.heap.size, 2, none⟩ (.bool kn)).setCell ⟨W.heap.size, 3, none⟩ (.int .i64 la)).setCell ⟨W.heap.size, 4, none⟩ (.int .i64 mi)).setCell ⟨W.heap.size, 5, none⟩ (.int .i64 sm)).setCell ⟨W.heap.size, 6, none⟩ (.int .i64 va) := ⟨_, rfl⟩
          have GK : Hid (Kq (fun q => q = W.heap.size) V8 w6) := by show Kq _ _ _; rw [hw6]; exact K5.trans ((((((Kq.refl (fun q => q = W.heap.size) w5).set rfl).set rfl).set rfl).set rfl).set rfl)
          have GX : Hid (Bx w6 W.heap.size (spaceC ⟨lg, D.S, (A.take (k + 1)).foldl (rtF x0 now de) D.r⟩ a c)) := by
            show Bx _ _ _
            rw [unhide ER, hw6]
            exact (((((X5.set (i := 2) (by simp)).set (i := 3) (by simp)).set (i := 4) (by simp)).set (i := 5) (by simp)).set (i := 6) (by simp))
          have HW6 := hide hw6
          clear hw6 b5 X5 K5 X1 K1 Y1 y1 y1l x1c x1l n1c n1l ws HS
          go_upto_region 14 with fail
          rw [← unhide HW6]
          clear HW6
          go_wp2
          exact ⟨⟨k + 1, by omega, by go_num, GX, GK⟩, by simp [intOf]; omega⟩
        · have er : rtF hi now de r ⟨x0, x1, x2⟩ = r := by unfold rtF; rw [if_neg he]
          rw [er] at ER
          have GX : Hid (Bx W1 W.heap.size (spaceC ⟨lg, D.S, (A.take (k + 1)).foldl (rtF hi now de) D.r⟩ a c)) := by
            show Bx _ _ _
            rw [unhide ER]
            exact unhide X1
          have t9 : (x0 == hi) = false := beq_eq_false_iff_ne.2 he
          clear er
          go_wp2
          exact ⟨⟨k + 1, by omega, by go_num, GX, K1⟩, by simp [intOf]; omega⟩
      · obtain rfl : k = A.length := by omega
        rw [List.take_length] at hX
        have hrg : rtB (A.foldl (rtF hi now de) D.r) = true := rt_fold (unhide HDE) _ _ (fun y hy => unhide HAm y hy) (unhide HRT)
        have Y2 := hide (unhide YES lg (A.foldl (rtF hi now de) D.r) rfl (unhide HER _ rfl).symm)
        generalize A.foldl (rtF hi now de) D.r = R at *
        have N9 := hide ((unhide N8).kept (unhide hK).size ((unhide hK).block _ (unhide N8).lt (by omega)))
        have R9 := hide ((unhide R8).kept (unhide hK).size ((unhide hK).block _ (unhide R8).lt (by omega)))
        have Q14 := hide ((unhide P14).kept (unhide hK).size ((unhide hK).block _ (unhide P14).lt (by omega)))
        have Q15 := hide ((unhide P15).kept (unhide hK).size ((unhide hK).block _ (unhide P15).lt (by omega)))
        have E1 := hide ((unhide D1).kq (unhide hK) (fun q hq => Or.inl (by omega)))
        have E2 := ((unhide D2).kq (unhide hK) (fun q hq => Or.inl (by omega))).rd
        have B9 := hide ((unhide B8).trans ((unhide hK).below (base := W.heap.size) (unhide B8).size (fun q hq => by omega)))
        have HP2 := hide (parted2 (fun x => loB lg now R x) (w8.heap.size + 1) aM cM M wr W.heap.size (W.heap.size + 1 + 1) (by omega) (unhide Q15) E2 (fun V b x => cl2 x W.heap.size (W.heap.size + 1 + 1) ⟨lg, D.S, R⟩ a c now V hrg lg0 lg1 n0 n1 ((unhide hX).below b) ((unhide N9).below b)))
        clear YES HER HE HRT HDE HAm HAi hrg hK D1 D2 N8 R8 P14 P15 B8 L8 E2 hlt hk
        go_wp2_with fail
        refine (unhide HP2).mono ?_
        rintro e w10 ⟨v3, v4, rfl, o3, o4, dj, b10⟩
        obtain ⟨a4, c4, e4, hle4, r4, _⟩ := o4.rb (W.heap.size + 1)
        have HL4 := hide hle4
        clear hle4
        have z4 := o4.blk_or (W.heap.size + 1)
        generalize blk (M.filter fun x => !loB lg now R x) v4 (W.heap.size + 1) = g4 at *
        obtain ⟨a3, c3, e3, _, i3⟩ := o3.form
        generalize hLO : M.filter (fun x => loB lg now R x) = LO at *
        generalize (M.filter fun x => !loB lg now R x) = LK at *
        have hLO60 : LO.length ≤ 60 := by
          rw [← hLO]
          have h1 := List.length_filter_le (fun x : SentD => loB lg now R x) M
          omega
        clear hLO o3 o4 dj
        subst e3
        subst e4
        obtain ⟨V10, hV10⟩ : ∃ V, V = (w10.alloc (.cells #[.slice a3 LO.length c3] 55)).alloc (.cells #[.slice a4 LK.length c4] 55) := ⟨_, rfl⟩
        have hAl : Below w10.heap.size w10 V10 := by rw [hV10]; exact ((Below.refl _ _).alloc (Nat.le_refl _) _).alloc (by simp) _
        have bV := b10.trans (hAl.mono b10.size)
        have P18 := hide (show Bx V10 w10.heap.size [.slice a3 LO.length c3] by rw [hV10]; exact (Bx.new w10 _ _).alloc _)
        have P19 := hide (show Bx V10 (w10.heap.size + 1) [.slice a4 LK.length c4] by rw [hV10]; exact Bx.newAt (w10.alloc _) _ _ _ (by simp))
        have A10 := hide ((unhide hX).below bV)
        have R10 := hide ((unhide R9).below bV)
        have P14 := hide ((unhide Q14).below bV)
        have E10 := hide ((unhide E1).below bV)
        have E30 := hide (i3.below hAl)
        have r40 := hide (r4.below hAl)
        have B10 := hide ((unhide B9).trans (bV.mono (unhide B9).size))
        have hs10 := b10.size
        have hs10b := (unhide P19).lt
        have HV10 := hide hV10
        clear hV10 hAl bV b10 hX R9 Q14 Q15 E1 i3 r4 B9 N9 HP2
        go_upto_region 16 with fail
        rw [← unhide HV10]
        clear HV10
        obtain ⟨V11, hV11⟩ : ∃ V, V = V10.setCell ⟨W.heap.size, 1, none⟩ (.slice a4 LK.length c4) := ⟨_, rfl⟩
        have k11 : Kq (fun q => q = W.heap.size) V10 V11 := by rw [hV11]; exact (Kq.refl _ _).set rfl
        have A11 := hide (show Bx V11 W.heap.size [.int .i64 lg, .slice a4 LK.length c4, .bool R.kn, .int .i64 R.la, .int .i64 R.mi, .int .i64 R.sm, .int .i64 R.va] by rw [hV11]; exact (unhide A10).set (i := 1) (by simp))
        have R11 := hide ((unhide R10).kept k11.size (k11.block _ (unhide R10).lt (by omega)))
        have Q14 := hide ((unhide P14).kept k11.size (k11.block _ (unhide P14).lt (by omega)))
        have Q18 := hide ((unhide P18).kept k11.size (k11.block _ (unhide P18).lt (by omega)))
        have E11 := hide ((unhide E10).kq k11 (fun q hq => Or.inl (by omega)))
        have E31 := hide ((unhide E30).kq k11 (fun q hq => Or.inl (by omega)))
        have r41 := (unhide r40).kq k11 (by omega)
        have B11 := hide ((unhide B10).trans (k11.below (base := W.heap.size) (unhide B10).size (fun q hq => by omega)))
        have hs11 := k11.size
        have HV11 := hide hV11
        have a10 := (unhide A10).cv
        have a10f := (unhide A10).fz
        have a10l := (unhide A10).lt
        have p19 := (unhide P19).cv
        have p19l := (unhide P19).lt
        have hz4 := hide z4
        clear hV11 k11 A10 R10 P14 P18 P19 E10 E30 r40 B10 z4
        go_upto_region 17 with fail
        rw [← unhide HV11]
        clear HV11 a10 a10f a10l p19 p19l
        have HN1 := hide (fun V (k : Kq (fun q => q = W.heap.size + 1 + 1 + 1) V11 V) => implNs aA cA A V (by omega) ((unhide E11).kq k (fun q hq => Or.inl (by omega))).rd)
        have HN2 := hide (fun V (k : Kq (fun q => q = W.heap.size + 1 + 1 + 1) V11 V) => implNs a3 c3 LO V (by omega) ((unhide E31).kq k (fun q hq => Or.inl (by omega))).rd)
        have HR4 := hide r41
        have z4 := unhide hz4
        clear r41 hz4
        refine wp_region_noPanic ?_
        refine wp_region_held_drew (S := fun V => Kq (fun q => q = W.heap.size + 1 + 1 + 1) V11 V) (by kernel_rfl) (Kq.of (Below.refl _ _).drew) (fun hHeld => ?_)
        refine wpAnyH_take (i := 0) (v := ?_) rfl (by kernel_rfl) (by kernel_rfl) (by kernel_rfl) (fun _ _ _ h => h) (Or.inl ⟨by rfl, ?_⟩) hHeld ?_
        rotate_left
        · intro V hSw; have y1 := (Bx.kq (unhide A11) hSw (by omega)).cv; have y2 := (Bx.kq (unhide Q14) hSw (by omega)).cv; have y3 := (Bx.kq (unhide Q18) hSw (by omega)).cv; have y1l := (Bx.kq (unhide A11) hSw (by omega)).lt; have y2l := (Bx.kq (unhide Q14) hSw (by omega)).lt; have y3l := (Bx.kq (unhide Q18) hSw (by omega)).lt; go_simp; rfl
        try simp only [Act.put, List.getElem_toArray, List.getElem_cons_zero, List.setIfInBounds_toArray, List.set_cons_zero, List.set_cons_succ]
        refine wpAnyH_take (i := 1) (v := ?_) rfl (by kernel_rfl) (by kernel_rfl) (by kernel_rfl) (fun _ _ _ h => h) (Or.inl ⟨by rfl, ?_⟩) hHeld ?_
        rotate_left
        · intro V hSw; have y1 := (Bx.kq (unhide A11) hSw (by omega)).cv; have y2 := (Bx.kq (unhide Q14) hSw (by omega)).cv; have y3 := (Bx.kq (unhide Q18) hSw (by omega)).cv; have y1l := (Bx.kq (unhide A11) hSw (by omega)).lt; have y2l := (Bx.kq (unhide Q14) hSw (by omega)).lt; have y3l := (Bx.kq (unhide Q18) hSw (by omega)).lt; go_simp; rfl
        try simp only [Act.put, List.getElem_toArray, List.getElem_cons_succ, List.getElem_cons_zero, List.setIfInBounds_toArray, List.set_cons_zero, List.set_cons_succ]
        refine wpAnyH_take (i := 2) (v := ?_) rfl (by kernel_rfl) (by kernel_rfl) (by kernel_rfl) (fun _ _ _ h => h) (Or.inl ⟨by rfl, ?_⟩) hHeld ?_
        rotate_left
        · intro V hSw; have y1 := (Bx.kq (unhide A11) hSw (by omega)).cv; have y2 := (Bx.kq (unhide Q14) hSw (by omega)).cv; have y3 := (Bx.kq (unhide Q18) hSw (by omega)).cv; have y1l := (Bx.kq (unhide A11) hSw (by omega)).lt; have y2l := (Bx.kq (unhide Q14) hSw (by omega)).lt; have y3l := (Bx.kq (unhide Q18) hSw (by omega)).lt; go_simp; rfl
        try simp only [Act.put, List.getElem_toArray, List.getElem_cons_succ, List.getElem_cons_zero, List.setIfInBounds_toArray, List.set_cons_zero, List.set_cons_succ]
        refine wpAnyH_take (i := 4) (v := ?_) rfl (by kernel_rfl) (by kernel_rfl) (by kernel_rfl) (fun _ _ _ h => h) (Or.inl ⟨by rfl, ?_⟩) hHeld ?_
        rotate_left
        · intro V hSw; have y1 := (Bx.kq (unhide A11) hSw (by omega)).cv; have y2 := (Bx.kq (unhide Q14) hSw (by omega)).cv; have y3 := (Bx.kq (unhide Q18) hSw (by omega)).cv; have y1l := (Bx.kq (unhide A11) hSw (by omega)).lt; have y2l := (Bx.kq (unhide Q14) hSw (by omega)).lt; have y3l := (Bx.kq (unhide Q18) hSw (by omega)).lt; go_simp; rfl
        try simp only [Act.put, List.getElem_toArray, List.getElem_cons_succ, List.getElem_cons_zero, List.setIfInBounds_toArray, List.set_cons_zero, List.set_cons_succ]
        refine wpAnyH_take (i := 5) (v := ?_) rfl (by kernel_rfl) (by kernel_rfl) (by kernel_rfl) (fun _ _ _ h => h) (Or.inl ⟨by rfl, ?_⟩) hHeld ?_
        rotate_left
        · intro V hSw; have y1 := (Bx.kq (unhide A11) hSw (by omega)).cv; have y2 := (Bx.kq (unhide Q14) hSw (by omega)).cv; have y3 := (Bx.kq (unhide Q18) hSw (by omega)).cv; have y1l := (Bx.kq (unhide A11) hSw (by omega)).lt; have y2l := (Bx.kq (unhide Q14) hSw (by omega)).lt; have y3l := (Bx.kq (unhide Q18) hSw (by omega)).lt; go_simp; rfl
        try simp only [Act.put, List.getElem_toArray, List.getElem_cons_succ, List.getElem_cons_zero, List.setIfInBounds_toArray, List.set_cons_zero, List.set_cons_succ]
        have RQ0 := hide (show Bx V11.drew (W.heap.size + 1 + 1 + 1) spaceZ from (unhide R11).drew)
        refine wpAnyH_ready (rs := [3]) (by kernel_rfl) (by simp) ?_
        refine (AllReadyH.cons rfl (fun K hK => ?_) AllReadyH.nil)
        go_simp
        go_at_call 23
        with_reducible refine (unhide HN1 _ hHeld).mono ?_
        rintro e w11 ⟨v5, rfl, ov5, bv5⟩
        have qv5 := ov5.blk_or (W.heap.size + 2)
        have hsv5 := bv5.size
        replace RQ0 := hide ((unhide RQ0).below bv5)
        have hzv5 := hHeld.size
        refine hK.out _ _ (hHeld.trans (Kq.of bv5)) (fun hHeld => ?_)
        clear hK K
        try simp only [Act.put, List.getElem_toArray, List.getElem_cons_succ, List.getElem_cons_zero, List.setIfInBounds_toArray, List.set_cons_zero, List.set_cons_succ]
        refine wpAnyH_ready (rs := [6]) (by kernel_rfl) (by simp) ?_
        refine (AllReadyH.cons rfl (fun K hK => ?_) AllReadyH.nil)
        go_simp
        go_at_call 23
        with_reducible refine (unhide HN2 _ hHeld).mono ?_
        rintro e w12 ⟨v6, rfl, ov6, bv6⟩
        have qv6 := ov6.blk_or (W.heap.size + 4)
        have hsv6 := bv6.size
        replace RQ0 := hide ((unhide RQ0).below bv6)
        replace ov5 := ov5.below bv6
        have hzv6 := hHeld.size
        refine hK.out _ _ (hHeld.trans (Kq.of bv6)) (fun hHeld => ?_)
        clear hK K
        try simp only [Act.put, List.getElem_toArray, List.getElem_cons_succ, List.getElem_cons_zero, List.setIfInBounds_toArray, List.set_cons_zero, List.set_cons_succ]
        have h17 := (unhide R11).lt
        obtain ⟨a5, c5, e5, _, r5, _⟩ := ov5.rb (W.heap.size + 2)
        obtain ⟨a6, c6, e6, _, r6, _⟩ := ov6.rb (W.heap.size + 4)
        have E5 := hide e5
        have E6 := hide e6
        clear e5 e6
        generalize blk (A.map fun x => x.f0) v5 (W.heap.size + 2) = g5 at *
        generalize blk (LO.map fun x => x.f0) v6 (W.heap.size + 4) = g6 at *
        have RR := hide (unhide RQ0)
        have F7 := hide (st7 (unhide RR) (.int .i64 lg) (.slice a4 LK.length c4) (.bool R.kn) (.int .i64 R.la) (.int .i64 R.mi) (.int .i64 R.sm) (.int .i64 R.va))
        have z1 := (unhide RR).cv
        have z2 := (unhide RR).fz
        have z3 := (unhide RR).lt
        refine wpAnyH_ready (rs := [7]) (by kernel_rfl) (by simp) ?_
        refine (AllReadyH.cons rfl (fun K hK => ?_) AllReadyH.nil)
        go_simp
        refine hK.out _ _ (hHeld.trans (unhide F7).2) (fun hHeld => ?_)
        clear hK K
        try simp only [Act.put, List.getElem_toArray, List.getElem_cons_succ, List.getElem_cons_zero, List.setIfInBounds_toArray, List.set_cons_zero, List.set_cons_succ]
        refine wpAnyH_take (i := 8) (v := ?_) rfl (by kernel_rfl) (by kernel_rfl) (by kernel_rfl) (fun _ _ _ h => h) (Or.inl ⟨by rfl, ?_⟩) hHeld ?_
        rotate_left
        · intro V hSw; go_simp; rfl
        try simp only [Act.put, List.getElem_toArray, List.getElem_cons_succ, List.getElem_cons_zero, List.setIfInBounds_toArray, List.set_cons_zero, List.set_cons_succ]
        refine wpAnyH_take (i := 9) (v := ?_) rfl (by kernel_rfl) (by kernel_rfl) (by kernel_rfl) (fun _ _ _ h => h) (Or.inl ⟨by rfl, ?_⟩) hHeld ?_
        rotate_left
        · intro V hSw; go_simp; rfl
        try simp only [Act.put, List.getElem_toArray, List.getElem_cons_succ, List.getElem_cons_zero, List.setIfInBounds_toArray, List.set_cons_zero, List.set_cons_succ]
        refine wpAnyH_take (i := 10) (v := ?_) rfl (by kernel_rfl) (by kernel_rfl) (by kernel_rfl) (fun _ _ _ h => h) (Or.inl ⟨by rfl, ?_⟩) hHeld ?_
        rotate_left
        · intro V hSw; go_simp; rfl
        try simp only [Act.put, List.getElem_toArray, List.getElem_cons_succ, List.getElem_cons_zero, List.setIfInBounds_toArray, List.set_cons_zero, List.set_cons_succ]
        refine wpAnyH_done (by kernel_rfl) ?_ _
        refine NoPanic.normal ?_
        have f7 := (unhide F7).1.cv
        have kF := (unhide F7).2
        have FF := hide (And.intro (((unhide HR4).kq hHeld (by omega)).mono (base' := W.heap.size) (by omega)) (And.intro ((r5.kq kF (by omega)).mono (base' := W.heap.size) (by omega)) ((r6.kq kF (by omega)).mono (base' := W.heap.size) (by omega))))
        have BB := hide ((unhide B11).trans (hHeld.below (base := W.heap.size) (unhide B11).size (fun q hq => by omega)))
        clear hHeld z1 z2 F7 kF r5 r6
        go_wp2
        refine bodyPost_ret (v := .tuple #[.agg #[.int .i64 lg, .slice a4 LK.length c4, .bool R.kn, .int .i64 R.la, .int .i64 R.mi, .int .i64 R.sm, .int .i64 R.va], v5, v6, .bool true]) (by simp [results, Try.results5, go_sem, f7]) rfl ?_
        rw [unhide E5, unhide E6]
        exact unhide Y2 _ a4 c4 a5 c5 a6 c6 g4 g5 g6 (unhide HL4) (unhide FF).1 (unhide FF).2.1 (unhide FF).2.2 (by omega) (by omega) (by omega) (unhide BB)
  · have t1 : decide (now < lt) = true := decide_eq_true (by omega)
    refine wp_region_noPanic ?_
    refine wp_region_held_drew (S := fun V => Bx V W.heap.size (spaceC D a c) ∧ Bx V (W.heap.size + 1) [.slice aL L.length cL] ∧ Bx V (W.heap.size + 1 + 1) [.int .i64 now] ∧ Bx V (W.heap.size + 1 + 1 + 1) spaceZ ∧ Below W.heap.size W V) (by kernel_rfl) (⟨(unhide A2).drew, (unhide L2).drew, (unhide N2).drew, (unhide R2).drew, (unhide B2).drew⟩) (fun hHeld => ?_)
    refine wpAnyH_take (i := 0) (v := ?_) rfl (by kernel_rfl) (by kernel_rfl) (by kernel_rfl) (fun _ _ _ h => h) (Or.inl ⟨by rfl, ?_⟩) hHeld ?_
    rotate_left
    · intro V hSw; have y1 := hSw.1.cv; have y2 := hSw.2.2.1.cv; have y3 := hSw.2.2.1.lt; go_simp; rfl
    try simp only [Act.put, List.getElem_toArray, List.getElem_cons_zero, List.setIfInBounds_toArray, List.set_cons_zero, List.set_cons_succ]
    refine wpAnyH_ready (rs := [1]) (by kernel_rfl) (by simp) ?_
    refine AllReadyH.cons rfl (fun K hK => ?_) AllReadyH.nil
    go_simp
    go_at_call 14
    with_reducible refine (unhide HT1 _).mono ?_
    rintro e w9 ⟨rfl, h9⟩
    rw [h9]
    clear h9 w9
    refine hK.out _ _ (hHeld) (fun hHeld => ?_)
    clear hK K
    try simp only [Act.put, List.getElem_toArray, List.getElem_cons_succ, List.getElem_cons_zero, List.setIfInBounds_toArray, List.set_cons_zero, List.set_cons_succ]
    refine wpAnyH_take (i := 2) (v := ?_) rfl (by kernel_rfl) (by kernel_rfl) (by kernel_rfl) (fun _ _ _ h => h) (Or.inl ⟨by rfl, ?_⟩) hHeld ?_
    rotate_left
    · intro V hSw; have y1 := hSw.1.cv; have y2 := hSw.2.2.1.cv; have y3 := hSw.2.2.1.lt; go_simp; rfl
    try simp only [Act.put, List.getElem_toArray, List.getElem_cons_succ, List.getElem_cons_zero, List.setIfInBounds_toArray, List.set_cons_zero, List.set_cons_succ]
    refine wpAnyH_take (i := 3) (v := ?_) rfl (by kernel_rfl) (by kernel_rfl) (by kernel_rfl) (fun _ _ _ h => h) (Or.inl ⟨by rfl, ?_⟩) hHeld ?_
    rotate_left
    · intro V hSw; have y1 := hSw.1.cv; have y2 := hSw.2.2.1.cv; have y3 := hSw.2.2.1.lt; go_simp; rfl
    try simp only [Act.put, List.getElem_toArray, List.getElem_cons_succ, List.getElem_cons_zero, List.setIfInBounds_toArray, List.set_cons_zero, List.set_cons_succ]
    refine wpAnyH_take (i := 4) (v := ?_) rfl (by kernel_rfl) (by kernel_rfl) (by kernel_rfl) (fun _ _ _ h => h) (Or.inl ⟨by rfl, ?_⟩) hHeld ?_
    rotate_left
    · intro V hSw; have y1 := hSw.1.cv; have y2 := hSw.2.2.1.cv; have y3 := hSw.2.2.1.lt; go_simp; rfl
    try simp only [Act.put, List.getElem_toArray, List.getElem_cons_succ, List.getElem_cons_zero, List.setIfInBounds_toArray, List.set_cons_zero, List.set_cons_succ]
    refine wpAnyH_take (i := 5) (v := ?_) rfl (by kernel_rfl) (by kernel_rfl) (by kernel_rfl) (fun _ _ _ h => h) (Or.inl ⟨by rfl, ?_⟩) hHeld ?_
    rotate_left
    · intro V hSw; have y1 := hSw.1.cv; have y2 := hSw.2.2.1.cv; have y3 := hSw.2.2.1.lt; go_simp; rfl
    try simp only [Act.put, List.getElem_toArray, List.getElem_cons_succ, List.getElem_cons_zero, List.setIfInBounds_toArray, List.set_cons_zero, List.set_cons_succ]
    refine wpAnyH_take (i := 6) (v := ?_) rfl (by kernel_rfl) (by kernel_rfl) (by kernel_rfl) (fun _ _ _ h => h) (Or.inl ⟨by rfl, ?_⟩) hHeld ?_
    rotate_left
    · intro V hSw; have y1 := hSw.1.cv; have y2 := hSw.2.2.1.cv; have y3 := hSw.2.2.1.lt; go_simp; rfl
    try simp only [Act.put, List.getElem_toArray, List.getElem_cons_succ, List.getElem_cons_zero, List.setIfInBounds_toArray, List.set_cons_zero, List.set_cons_succ]
    refine wpAnyH_ready (rs := [7]) (by kernel_rfl) (by simp) ?_
    refine AllReadyH.cons rfl (fun K hK => ?_) AllReadyH.nil
    go_simp
    go_at_call 15
    with_reducible refine (unhide HA _ hHeld.2.2.2.2).mono ?_
    rintro e w9 ⟨rfl, h9⟩
    rw [h9]
    clear h9 w9
    refine hK.out _ _ (hHeld) (fun hHeld => ?_)
    clear hK K
    try simp only [Act.put, List.getElem_toArray, List.getElem_cons_succ, List.getElem_cons_zero, List.setIfInBounds_toArray, List.set_cons_zero, List.set_cons_succ]
    refine wpAnyH_take (i := 8) (v := ?_) rfl (by kernel_rfl) (by kernel_rfl) (by kernel_rfl) (fun _ _ _ h => h) (Or.inl ⟨by rfl, ?_⟩) hHeld ?_
    rotate_left
    · intro V hSw; have y1 := hSw.1.cv; have y2 := hSw.2.2.1.cv; have y3 := hSw.2.2.1.lt; go_simp; rfl
    try simp only [Act.put, List.getElem_toArray, List.getElem_cons_succ, List.getElem_cons_zero, List.setIfInBounds_toArray, List.set_cons_zero, List.set_cons_succ]
    refine wpAnyH_take (i := 9) (v := ?_) rfl (by kernel_rfl) (by kernel_rfl) (by kernel_rfl) (fun _ _ _ h => h) (Or.inl ⟨by rfl, ?_⟩) hHeld ?_
    rotate_left
    · intro V hSw; have y1 := hSw.1.cv; have y2 := hSw.2.2.1.cv; have y3 := hSw.2.2.1.lt; go_simp; rfl
    try simp only [Act.put, List.getElem_toArray, List.getElem_cons_succ, List.getElem_cons_zero, List.setIfInBounds_toArray, List.set_cons_zero, List.set_cons_succ]
    refine wpAnyH_take (i := 10) (v := ?_) rfl (by kernel_rfl) (by kernel_rfl) (by kernel_rfl) (fun _ _ _ h => h) (Or.inl ⟨by rfl, ?_⟩) hHeld ?_
    rotate_left
    · intro V hSw; have y1 := hSw.1.cv; have y2 := hSw.2.2.1.cv; have y3 := hSw.2.2.1.lt; go_simp; rfl
    try simp only [Act.put, List.getElem_toArray, List.getElem_cons_succ, List.getElem_cons_zero, List.setIfInBounds_toArray, List.set_cons_zero, List.set_cons_succ]
    refine wpAnyH_take (i := 11) (v := undef) rfl (by kernel_rfl) (by kernel_rfl) (by kernel_rfl) (fun _ _ _ h => h) (Or.inr ⟨by rfl, rfl⟩) hHeld ?_
    try simp only [Act.put, List.getElem_toArray, List.getElem_cons_succ, List.getElem_cons_zero, List.setIfInBounds_toArray, List.set_cons_zero, List.set_cons_succ]
    refine wpAnyH_take (i := 12) (v := undef) rfl (by kernel_rfl) (by kernel_rfl) (by kernel_rfl) (fun _ _ _ h => h) (Or.inr ⟨by rfl, rfl⟩) hHeld ?_
    try simp only [Act.put, List.getElem_toArray, List.getElem_cons_succ, List.getElem_cons_zero, List.setIfInBounds_toArray, List.set_cons_zero, List.set_cons_succ]
    refine wpAnyH_take (i := 13) (v := undef) rfl (by kernel_rfl) (by kernel_rfl) (by kernel_rfl) (fun _ _ _ h => h) (Or.inr ⟨by rfl, rfl⟩) hHeld ?_
    try simp only [Act.put, List.getElem_toArray, List.getElem_cons_succ, List.getElem_cons_zero, List.setIfInBounds_toArray, List.set_cons_zero, List.set_cons_succ]
    refine wpAnyH_take (i := 14) (v := ?_) rfl (by kernel_rfl) (by kernel_rfl) (by kernel_rfl) (fun _ _ _ h => h) (Or.inl ⟨by rfl, ?_⟩) hHeld ?_
    rotate_left
    · intro V hSw; have y1 := hSw.1.cv; have y2 := hSw.2.2.1.cv; have y3 := hSw.2.2.1.lt; go_simp; rfl
    try simp only [Act.put, List.getElem_toArray, List.getElem_cons_succ, List.getElem_cons_zero, List.setIfInBounds_toArray, List.set_cons_zero, List.set_cons_succ]
    refine wpAnyH_done (by kernel_rfl) ?_ _
    refine NoPanic.normal ?_
    obtain ⟨A3, L3, N3, R3, B3⟩ := hHeld
    replace A3 := hide A3
    replace L3 := hide L3
    replace N3 := hide N3
    replace R3 := hide R3
    replace B3 := hide B3
    generalize w2.drew = w3 at *
    clear A2 L2 N2 R2 B2
    have HE : Hid (taB D L now de = false) := by show _ = _; rw [unhide hta, decide_eq_false hl]; rfl
    clear HG HL HA HR HRL HT1 HT2 hta HO A3 L3 N3 hg hr h0 hk hmf HLT hl
    have r2 := (unhide R3).cv
    have r2f := (unhide R3).fz
    have r2l := (unhide R3).lt
    go_wp2
    refine bodyPost_ret (v := .tuple #[.agg spaceZ.toArray, .slice none 0 0, .slice none 0 0, .bool false]) (by simp [results, Try.results5, go_sem, r2]) rfl (unhide NO _ (unhide HE) ?_)
    iterate 7 refine Below.setCell ?_ (by simp <;> omega) _
    exact unhide B3
theorem implTA (D : SpaceD) (L : List RangeD) (now de : Int) (hn : D.S.length ≤ 1048576) (hm : L.length ≤ 1048576) (ho : rgO L) (W : World) (a : Option Addr) (c : Nat) (hc : D.S.length ≤ c) (aL : Option Addr) (cL : Nat) (h : RdSpace W a D) (hL : Rd rangeK W aL L) :
    Calls Try.prog 5 #[spaceV D a c, .slice aL L.length cL, .int .i64 now, .int .i64 de] W (TAP D L now de W) := (implTAc D L now de hn hm ho W a c hc aL cL h hL).mono fun _ _ h => h.tap
end Go.Proofs.Ytccfbkpelehldaa.Rc
