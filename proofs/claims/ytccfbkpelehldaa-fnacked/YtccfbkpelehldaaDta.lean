/-
  Contracts: DrawTakeAck of the model.
-/
import Derived.Test.YtccfbkpelehldaaSpd
namespace Go.Proofs.Ytccfbkpelehldaa.Rc
open Go.ChangeShapes Go.WideShapes Go.ChangeAt Go.RowKit Go.Deep
set_option linter.unusedVariables false
set_option maxRecDepth 100000

set_option maxHeartbeats 8000000 in
theorem drawTA_any (a : Option Addr) (N cap : Nat) (w : World) (hN : N ≤ 1048576) (h : Cd w a N) :
    Calls Try.prog 4 #[.slice a N cap] w fun e w' => ∃ (D : SpaceD) (aS : Option Addr) (cS : Nat) (aL : Option Addr) (cL : Nat) (L : List RangeD) (now de : Int), e = .returned (.tuple #[spaceV D aS cS, .slice aL L.length cL, .int .i64 now, .int .i64 de]) ∧ (D.S.length ≤ 20 ∧ D.S.length ≤ cS ∧ L.length ≤ 20 ∧ (∀ r ∈ L, bdR r)) ∧ RdSpace w' aS D ∧ Rd rangeK w' aL L ∧ Below w.heap.size w w' := by
  obtain ⟨V1, hV1⟩ : ∃ V, V = (w.alloc (.cells #[.int .i64 0, .slice none 0 0, .bool false, .int .i64 0, .int .i64 0, .int .i64 0, .int .i64 0] 27)).alloc (.cells #[.slice a N cap, .int .i64 0, .int .u64 0] 44) := ⟨_, rfl⟩
  have hA := (Below.refl w.heap.size w).alloc (Nat.le_refl _) (.cells #[.int .i64 0, .slice none 0 0, .bool false, .int .i64 0, .int .i64 0, .int .i64 0, .int .i64 0] 27)
  have R1 := hide (show Bx V1 w.heap.size [.int .i64 0, .slice none 0 0, .bool false, .int .i64 0, .int .i64 0, .int .i64 0, .int .i64 0] by rw [hV1]; exact (Bx.new w _ _).alloc _)
  have U1 : Hid (Cu V1 (w.heap.size + 1) a N cap 0) := by
    have := cu_first cap 44 (h.below hA)
    rw [show (w.alloc (.cells #[.int .i64 0, .slice none 0 0, .bool false, .int .i64 0, .int .i64 0, .int .i64 0, .int .i64 0] 27)).heap.size = w.heap.size + 1 by simp] at this
    rw [hV1]
    exact this
  have B1 := hide (show Below w.heap.size w V1 by rw [hV1]; exact hA.alloc (by simp) _)
  have HV1 := hide hV1
  clear hV1 hA h
  go_enter Try.func4, Try.ntmps4
  go_upto_region 2 with fail
  rw [← unhide HV1]
  clear HV1
  go_wp2_with fail
  refine (space_any (w.heap.size + 1) a N cap 0 V1 hN (by omega) (unhide U1)).mono ?_
  rintro e w2 ⟨D, aS, cS, nw, rfl, hD, hDc, iS, u2, k2⟩
  have sV1 := (unhide U1).lt
  have s2 := k2.size
  obtain ⟨V2, hV2⟩ : ∃ V, V = w2.alloc (.cells #[.int .i64 D.lg, .slice aS D.S.length cS, .bool D.r.kn, .int .i64 D.r.la, .int .i64 D.r.mi, .int .i64 D.r.sm, .int .i64 D.r.va] 27) := ⟨_, rfl⟩
  have AL : Below w2.heap.size w2 V2 := by rw [hV2]; exact (Below.refl _ _).alloc (Nat.le_refl _) _
  have X2 := hide (show Bx V2 w2.heap.size (spaceC D aS cS) by rw [hV2]; exact Bx.new w2 _ _)
  have R2 := hide ((bx_kx (unhide R1) k2 (by omega)).below AL)
  have U2 := hide (u2.same AL)
  have I2 := hide (iS.below AL)
  have HQ2 := hide (show Kq (fun q => q = w.heap.size ∨ q = w.heap.size + 1) V1 V2 from ((kx_kq k2).imp (fun q hq => Or.inr hq)).trans (Kq.of AL))
  have s3 : w2.heap.size < V2.heap.size := (unhide X2).lt
  have HV2 := hide hV2
  clear hV2 AL R1 U1 u2 k2 iS
  go_upto_region 3 with fail
  rw [← unhide HV2]
  clear HV2
  refine wp_region_noPanic ?_
  refine wp_region_held_drew (S := fun V => Kq (fun q => q = w.heap.size ∨ q = w.heap.size + 1) V2 V) (by kernel_rfl) (Kq.of (Below.refl _ _).drew) (fun hHeld => ?_)
  refine wpAnyH_take (i := 0) (v := ?_) rfl (by kernel_rfl) (by kernel_rfl) (by kernel_rfl) (fun _ _ _ h => h) (Or.inl ⟨by rfl, ?_⟩) hHeld ?_
  rotate_left
  · intro V hSw; have y1 := (Bx.kq (unhide X2) hSw (by omega)).cv; have y1l := (Bx.kq (unhide X2) hSw (by omega)).lt; go_simp; rfl
  try simp only [Act.put, List.getElem_toArray, List.getElem_cons_zero, List.setIfInBounds_toArray, List.set_cons_zero, List.set_cons_succ]
  refine wpAnyH_take (i := 1) (v := ?_) rfl (by kernel_rfl) (by kernel_rfl) (by kernel_rfl) (fun _ _ _ h => h) (Or.inl ⟨by rfl, ?_⟩) hHeld ?_
  rotate_left
  · intro V hSw; go_simp; rfl
  try simp only [Act.put, List.getElem_toArray, List.getElem_cons_succ, List.getElem_cons_zero, List.setIfInBounds_toArray, List.set_cons_zero, List.set_cons_succ]
  refine wpAnyH_take (i := 3) (v := ?_) rfl (by kernel_rfl) (by kernel_rfl) (by kernel_rfl) (fun _ _ _ h => h) (Or.inl ⟨by rfl, ?_⟩) hHeld ?_
  rotate_left
  · intro V hSw; go_simp; rfl
  try simp only [Act.put, List.getElem_toArray, List.getElem_cons_succ, List.getElem_cons_zero, List.setIfInBounds_toArray, List.set_cons_zero, List.set_cons_succ]
  refine wpAnyH_take (i := 4) (v := ?_) rfl (by kernel_rfl) (by kernel_rfl) (by kernel_rfl) (fun _ _ _ h => h) (Or.inl ⟨by rfl, ?_⟩) hHeld ?_
  rotate_left
  · intro V hSw; go_simp; rfl
  try simp only [Act.put, List.getElem_toArray, List.getElem_cons_succ, List.getElem_cons_zero, List.setIfInBounds_toArray, List.set_cons_zero, List.set_cons_succ]
  refine wpAnyH_take (i := 8) (v := ?_) rfl (by kernel_rfl) (by kernel_rfl) (by kernel_rfl) (fun _ _ _ h => h) (Or.inl ⟨by rfl, ?_⟩) hHeld ?_
  rotate_left
  · intro V hSw; go_simp; rfl
  try simp only [Act.put, List.getElem_toArray, List.getElem_cons_succ, List.getElem_cons_zero, List.setIfInBounds_toArray, List.set_cons_zero, List.set_cons_succ]
  refine wpAnyH_ready (rs := [2]) (by kernel_rfl) (by simp) ?_
  refine (AllReadyH.cons rfl (fun K hK => ?_) AllReadyH.nil)
  go_simp
  go_at_call 11
  refine (numbers_any (w.heap.size + 1) a N cap 450 _ hN (by omega) ((unhide U2).same (Below.refl _ _).drew)).mono ?_
  rintro e w4 ⟨aL, cL, L, rfl, hL, hB, iL, u4, k4⟩
  refine hK.out _ _ (hHeld.trans ((kx_kq k4).imp (fun q hq => Or.inr hq))) (fun hHeld => ?_)
  clear hK K
  try simp only [Act.put, List.getElem_toArray, List.getElem_cons_succ, List.getElem_cons_zero, List.setIfInBounds_toArray, List.set_cons_zero, List.set_cons_succ]
  have I4 := hide (((unhide I2).below (Below.refl _ _).drew).kq (kx_kq k4) (fun q hq => Or.inl (by omega)))
  have R4 := hide (bx_kx ((unhide R2).drew) k4 (by omega))
  have L4 := hide iL
  have U4 := hide u4
  have s4 := k4.size
  rw [World.size_drew] at s4
  clear k4 iL u4
  refine wpAnyH_ready (rs := [5]) (by kernel_rfl) (by simp) ?_
  refine (AllReadyH.cons rfl (fun K hK => ?_) AllReadyH.nil)
  go_simp
  go_at_call 12
  refine (pickN (w.heap.size + 1) a N cap (450 + 22) 80 _ hN (by omega) (by omega) (by omega) (unhide U4)).mono ?_
  rintro e w5 ⟨n5, rfl, q5, u5, k5⟩
  refine hK.out _ _ (hHeld.trans ((kx_kq k5).imp (fun q hq => Or.inr hq))) (fun hHeld => ?_)
  clear hK K
  try simp only [Act.put, List.getElem_toArray, List.getElem_cons_succ, List.getElem_cons_zero, List.setIfInBounds_toArray, List.set_cons_zero, List.set_cons_succ]
  have I5 := hide ((unhide I4).kq (kx_kq k5) (fun q hq => Or.inl (by omega)))
  have R5 := hide (bx_kx (unhide R4) k5 (by omega))
  have L5 := hide ((unhide L4).kq (kx_kq k5) (fun q hq => Or.inl (by simp; omega)))
  have U5 := hide u5
  have s5 := k5.size
  clear k5 u5
  refine wpAnyH_take (i := 6) (v := ?_) rfl (by kernel_rfl) (by kernel_rfl) (by kernel_rfl) (fun _ _ _ h => h) (Or.inl ⟨by rfl, ?_⟩) hHeld ?_
  rotate_left
  · intro V hSw; go_simp; rfl
  try simp only [Act.put, List.getElem_toArray, List.getElem_cons_succ, List.getElem_cons_zero, List.setIfInBounds_toArray, List.set_cons_zero, List.set_cons_succ]
  refine wpAnyH_take (i := 7) (v := ?_) rfl (by kernel_rfl) (by kernel_rfl) (by kernel_rfl) (fun _ _ _ h => h) (Or.inl ⟨by rfl, ?_⟩) hHeld ?_
  rotate_left
  · intro V hSw; go_simp; rfl
  try simp only [Act.put, List.getElem_toArray, List.getElem_cons_succ, List.getElem_cons_zero, List.setIfInBounds_toArray, List.set_cons_zero, List.set_cons_succ]
  refine wpAnyH_ready (rs := [9]) (by kernel_rfl) (by simp) ?_
  refine (AllReadyH.cons rfl (fun K hK => ?_) AllReadyH.nil)
  go_simp
  go_at_call 12
  refine (pickN (w.heap.size + 1) a N cap (450 + 22 + 2) 20 _ hN (by omega) (by omega) (by omega) (unhide U5)).mono ?_
  rintro e w6 ⟨n6, rfl, q6, u6, k6⟩
  refine hK.out _ _ (hHeld.trans ((kx_kq k6).imp (fun q hq => Or.inr hq))) (fun hHeld => ?_)
  clear hK K
  try simp only [Act.put, List.getElem_toArray, List.getElem_cons_succ, List.getElem_cons_zero, List.setIfInBounds_toArray, List.set_cons_zero, List.set_cons_succ]
  have I6 := hide ((unhide I5).kq (kx_kq k6) (fun q hq => Or.inl (by omega)))
  have R6 := hide (bx_kx (unhide R5) k6 (by omega))
  have L6 := hide ((unhide L5).kq (kx_kq k6) (fun q hq => Or.inl (by simp; omega)))
  have U6 := hide u6
  have s6 := k6.size
  clear k6 u6
  have z1 := (unhide R6).cv
  have z2 := (unhide R6).fz
  have z3 := (unhide R6).lt
  have F7 := hide (st7d (unhide R6) (.int .i64 D.lg) (.slice aS D.S.length cS) (.bool D.r.kn) (.int .i64 D.r.la) (.int .i64 D.r.mi) (.int .i64 D.r.sm) (.int .i64 D.r.va))
  refine wpAnyH_ready (rs := [10]) (by kernel_rfl) (by simp) ?_
  refine (AllReadyH.cons rfl (fun K hK => ?_) AllReadyH.nil)
  go_simp
  refine hK.out _ _ (hHeld.trans ((unhide F7).2.imp (fun q hq => Or.inl hq))) (fun hHeld => ?_)
  clear hK K
  try simp only [Act.put, List.getElem_toArray, List.getElem_cons_succ, List.getElem_cons_zero, List.setIfInBounds_toArray, List.set_cons_zero, List.set_cons_succ]
  refine wpAnyH_take (i := 11) (v := ?_) rfl (by kernel_rfl) (by kernel_rfl) (by kernel_rfl) (fun _ _ _ h => h) (Or.inl ⟨by rfl, ?_⟩) hHeld ?_
  rotate_left
  · intro V hSw; go_simp; rfl
  try simp only [Act.put, List.getElem_toArray, List.getElem_cons_succ, List.getElem_cons_zero, List.setIfInBounds_toArray, List.set_cons_zero, List.set_cons_succ]
  refine wpAnyH_take (i := 12) (v := ?_) rfl (by kernel_rfl) (by kernel_rfl) (by kernel_rfl) (fun _ _ _ h => h) (Or.inl ⟨by rfl, ?_⟩) hHeld ?_
  rotate_left
  · intro V hSw; go_simp; rfl
  try simp only [Act.put, List.getElem_toArray, List.getElem_cons_succ, List.getElem_cons_zero, List.setIfInBounds_toArray, List.set_cons_zero, List.set_cons_succ]
  refine wpAnyH_take (i := 13) (v := ?_) rfl (by kernel_rfl) (by kernel_rfl) (by kernel_rfl) (fun _ _ _ h => h) (Or.inl ⟨by rfl, ?_⟩) hHeld ?_
  rotate_left
  · intro V hSw; go_simp; rfl
  try simp only [Act.put, List.getElem_toArray, List.getElem_cons_succ, List.getElem_cons_zero, List.setIfInBounds_toArray, List.set_cons_zero, List.set_cons_succ]
  refine wpAnyH_done (by kernel_rfl) ?_ _
  refine NoPanic.normal ?_
  have BB := hide ((unhide B1).trans (((unhide HQ2).trans hHeld).below (base := w.heap.size) (unhide B1).size (fun q hq => by omega)))
  have r7 := (unhide F7).1.cv
  have IS := hide (((unhide I6).kq (unhide F7).2 (fun q hq => Or.inl (by omega))).rd)
  have IL := hide (((unhide L6).kq (unhide F7).2 (fun q hq => Or.inl (by simp; omega))).rd)
  clear hHeld z1 z2 z3 F7 I2 I4 I5 I6 L4 L5 L6 R2 R4 R5 R6 U2 U4 U5 U6 X2 HQ2 B1
  go_wp2
  refine bodyPost_ret (v := .tuple #[spaceV D aS cS, .slice aL L.length cL, .int .i64 _, .int .i64 (n6 : Int)]) (by simp [results, Try.results4, go_sem, r7]; rfl) rfl ⟨D, aS, cS, aL, cL, L, _, _, rfl, ⟨hD, hDc, hL, hB⟩, unhide IS, unhide IL, unhide BB⟩
end Go.Proofs.Ytccfbkpelehldaa.Rc
