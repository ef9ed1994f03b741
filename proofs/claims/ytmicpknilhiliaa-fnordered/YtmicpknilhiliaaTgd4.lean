/-
  Contract of the program: two pieces as one.
-/
import Derived.Test.YtmicpknilhiliaaTgc
import Derived.Test.YtmicpknilhiliaaStt
namespace Go.Proofs.Ytmicpknilhiliaa.Rc
open Go.ChangeShapes Go.WideShapes Go.ChangeAt Go.RowKit Go.Deep
set_option linter.unusedVariables false
set_option maxRecDepth 100000

/-- the one that begins first, and the other one -/
def un1 (a b : PieceD) : PieceD := if b.f0 < a.f0 then b else a
def un2 (a b : PieceD) : PieceD := if b.f0 < a.f0 then a else b
def unP (a b : PieceD) : PieceD := ⟨(un1 a b).f0, (un1 a b).f1 ++ (prF (un2 a b) (pE (un1 a b))).f1⟩
theorem fldP (r0 : Int) (s : ByteArray) (W : World) : (Instr.field 53 (.agg #[.int .i64 r0, .string s]) 1).run Try.prog W = .ok (.string s) W := by kernel_rfl
set_option maxHeartbeats 4000000 in
theorem implUn (a b : PieceD) (W : World) (la : lowP a) (lb : lowP b) :
    Calls Try.prog 51 #[pieceV a, pieceV b] W fun e w' => e = .returned (pieceV (unP a b)) ∧ Below W.heap.size W w' := by
  obtain ⟨V0, hV0⟩ : ∃ V, V = ((W.alloc (.cells (pieceC a).toArray 53)).alloc (.cells (pieceC b).toArray 53)).alloc (.cells #[.int .i64 0, .string ⟨#[]⟩] 53) := ⟨_, rfl⟩
  have A0 := hide (show Bx V0 W.heap.size (pieceC a) by rw [hV0]; exact ((Bx.new W _ _).alloc _).alloc _)
  have C0 := hide (show Bx V0 (W.heap.size + 1) (pieceC b) by rw [hV0]; exact (Bx.newAt (W.alloc _) _ _ _ (by simp)).alloc _)
  have R0 := hide (show Bx V0 (W.heap.size + 1 + 1) [.int .i64 0, .string ⟨#[]⟩] by rw [hV0]; exact Bx.newAt ((W.alloc _).alloc _) _ _ _ (by simp))
  have B0 := hide (show Below W.heap.size W V0 by rw [hV0]; exact (((Below.refl W.heap.size W).alloc (Nat.le_refl _) _).alloc (by simp) _).alloc (by simp; omega) _)
  have HV0 := hide hV0
  have x0 := (unhide A0).cv
  have x0f := (unhide A0).fz
  have x0l := (unhide A0).lt
  have y0 := (unhide C0).cv
  have y0f := (unhide C0).fz
  have y0l := (unhide C0).lt
  clear hV0
  have E1 : Hid (un1 a b = if b.f0 < a.f0 then b else a) := rfl
  have E2 : Hid (un2 a b = if b.f0 < a.f0 then a else b) := rfl
  have EU : Hid (unP a b = ⟨(un1 a b).f0, (un1 a b).f1 ++ (prF (un2 a b) (pE (un1 a b))).f1⟩) := rfl
  have l1 : lowP (un1 a b) := by unfold un1; split <;> assumption
  have l2 : lowP (un2 a b) := by unfold un2; split <;> assumption
  obtain ⟨res, hres⟩ : ∃ x, x = unP a b := ⟨_, rfl⟩
  rw [← hres] at EU ⊢
  clear hres
  generalize un1 a b = u at *
  generalize un2 a b = v at *
  have HEN := hide (fun W => implEnd u W (by have := l1.1; omega) (by have := l1.2; unfold pE at this; omega) (by have := l1.1; have := l1.2; unfold pE at this; omega))
  have HPF := hide (fun W => implPF v (pE u) W (by have := l2.1; omega) (by have := l2.2; unfold pE at this; omega) (by have := l2.1; have := l2.2; unfold pE at this; omega) (by have := l1.1; unfold pE; omega) (by have := l1.2; omega))
  have HFL := hide (fldP)
  have hcat : ¬ 9223372036854775807 < u.f1.size + (prF v (pE u)).f1.size := by
    have h1 := l1.1
    have h2 := l1.2
    have h3 := l2.1
    have h4 := l2.2
    have h5 : (prF v (pE u)).f1.size ≤ v.f1.size := by unfold prF; dsimp only; rw [ByteArray.size_extract]; omega
    unfold pE at h2 h4
    omega
  have HPV : Hid (∃ r0, pieceV (prF v (pE u)) = .agg #[.int .i64 r0, .string (prF v (pE u)).f1]) := ⟨_, rfl⟩
  obtain ⟨r0, hpv⟩ := unhide HPV
  rw [hpv] at HPF
  generalize (prF v (pE u)).f1 = tx at *
  generalize pE u = pu at *
  clear hpv HPV l1 l2
  obtain ⟨a0, a1⟩ := a
  obtain ⟨b0, b1⟩ := b
  dsimp only at *
  go_enter Try.func51, Try.ntmps51
  go_upto_region 1 with fail
  rw [← unhide HV0]
  clear HV0
  go_upto_if 9 with fail
  go_cut [] (fun wx => Hid (Bx wx W.heap.size (pieceC u)) ∧ Hid (Bx wx (W.heap.size + 1) (pieceC v)) ∧ Hid (Bx wx (W.heap.size + 1 + 1) [.int .i64 0, .string ⟨#[]⟩]) ∧ Hid (Below W.heap.size W wx))
  case first =>
    by_cases hlt : b0 < a0
    · have e1 : Hid (u = ⟨b0, b1⟩) := by show _ = _; rw [unhide E1, if_pos hlt]
      have e2 : Hid (v = ⟨a0, a1⟩) := by show _ = _; rw [unhide E2, if_pos hlt]
      obtain ⟨V1, hV1⟩ : ∃ V, V = (((V0.setCell ⟨W.heap.size, 0, none⟩ (.int .i64 b0)).setCell ⟨W.heap.size, 1, none⟩ (.string b1)).setCell ⟨W.heap.size + 1, 0, none⟩ (.int .i64 a0)).setCell ⟨W.heap.size + 1, 1, none⟩ (.string a1) := ⟨_, rfl⟩
      have A1 := hide (show Bx V1 W.heap.size (pieceC u) by rw [hV1, unhide e1]; exact ((((unhide A0).set (i := 0) (by simp)).set (i := 1) (by simp)).other (by omega)).other (by omega))
      have C1 := hide (show Bx V1 (W.heap.size + 1) (pieceC v) by rw [hV1, unhide e2]; exact (((((unhide C0).other (by omega)).other (by omega)).set (i := 0) (by simp)).set (i := 1) (by simp)))
      have R1 := hide (show Bx V1 (W.heap.size + 1 + 1) [.int .i64 0, .string ⟨#[]⟩] by rw [hV1]; exact (((((unhide R0).other (by omega)).other (by omega)).other (by omega)).other (by omega)))
      have B1 := hide (show Below W.heap.size W V1 by rw [hV1]; exact (((((unhide B0).setCell (by simp) _).setCell (by simp) _).setCell (by simp) _).setCell (by simp) _))
      have HV1 := hide hV1
      clear hV1 A0 C0 R0 B0 e1 e2
      go_wp2
      rw [← unhide HV1]
      go_meet
      exact ⟨unhide A1, unhide C1, unhide R1, unhide B1⟩
    · have e1 : Hid (u = ⟨a0, a1⟩) := by show _ = _; rw [unhide E1, if_neg hlt]
      have e2 : Hid (v = ⟨b0, b1⟩) := by show _ = _; rw [unhide E2, if_neg hlt]
      rw [← unhide e1] at A0
      rw [← unhide e2] at C0
      clear e1 e2
      go_wp2
      go_meet
      exact ⟨unhide A0, unhide C0, unhide R0, unhide B0⟩
  case rest =>
  obtain ⟨A1, C1, R1, B1⟩ := hcut
  clear A0 C0 R0 B0 E1 E2 x0 x0f x0l y0 y0f y0l
  obtain ⟨u0, u1⟩ := u
  obtain ⟨v0, v1⟩ := v
  dsimp only at *
  go_upto_region 3 with fail
  refine wp_region_noPanic ?_
  refine wp_region_held_drew (S := fun V => Bx V W.heap.size [.int .i64 u0, .string u1] ∧ Bx V (W.heap.size + 1) [.int .i64 v0, .string v1]) (by kernel_rfl) (⟨(unhide A1).drew, (unhide C1).drew⟩) (fun hHeld => ?_)
  refine wpAnyH_take (i := 0) (v := ?_) rfl (by kernel_rfl) (by kernel_rfl) (by kernel_rfl) (fun _ _ _ h => h) (Or.inl ⟨by rfl, ?_⟩) hHeld ?_
  rotate_left
  · intro V hSw; have y1 := hSw.1.cv; have y2 := hSw.1.lt; go_simp; rfl
  try simp only [Act.put, List.getElem_toArray, List.getElem_cons_zero, List.setIfInBounds_toArray, List.set_cons_zero, List.set_cons_succ]
  refine wpAnyH_take (i := 1) (v := ?_) rfl (by kernel_rfl) (by kernel_rfl) (by kernel_rfl) (fun _ _ _ h => h) (Or.inl ⟨by rfl, ?_⟩) hHeld ?_
  rotate_left
  · intro V hSw; have y1 := hSw.1.cv; have y2 := hSw.1.lt; go_simp; rfl
  try simp only [Act.put, List.getElem_toArray, List.getElem_cons_succ, List.getElem_cons_zero, List.setIfInBounds_toArray, List.set_cons_zero, List.set_cons_succ]
  refine wpAnyH_take (i := 2) (v := ?_) rfl (by kernel_rfl) (by kernel_rfl) (by kernel_rfl) (fun _ _ _ h => h) (Or.inl ⟨by rfl, ?_⟩) hHeld ?_
  rotate_left
  · intro V hSw; have y1 := hSw.1.cv; have y2 := hSw.1.lt; go_simp; rfl
  try simp only [Act.put, List.getElem_toArray, List.getElem_cons_succ, List.getElem_cons_zero, List.setIfInBounds_toArray, List.set_cons_zero, List.set_cons_succ]
  refine wpAnyH_take (i := 3) (v := ?_) rfl (by kernel_rfl) (by kernel_rfl) (by kernel_rfl) (fun _ _ _ h => h) (Or.inl ⟨by rfl, ?_⟩) hHeld ?_
  rotate_left
  · intro V hSw; have y1 := hSw.1.cv; have y2 := hSw.1.lt; go_simp; rfl
  try simp only [Act.put, List.getElem_toArray, List.getElem_cons_succ, List.getElem_cons_zero, List.setIfInBounds_toArray, List.set_cons_zero, List.set_cons_succ]
  refine wpAnyH_take (i := 4) (v := ?_) rfl (by kernel_rfl) (by kernel_rfl) (by kernel_rfl) (fun _ _ _ h => h) (Or.inl ⟨by rfl, ?_⟩) hHeld ?_
  rotate_left
  · intro V hSw; have y1 := hSw.2.cv; have y2 := hSw.2.lt; go_simp; rfl
  try simp only [Act.put, List.getElem_toArray, List.getElem_cons_succ, List.getElem_cons_zero, List.setIfInBounds_toArray, List.set_cons_zero, List.set_cons_succ]
  refine wpAnyH_take (i := 5) (v := ?_) rfl (by kernel_rfl) (by kernel_rfl) (by kernel_rfl) (fun _ _ _ h => h) (Or.inl ⟨by rfl, ?_⟩) hHeld ?_
  rotate_left
  · intro V hSw; have y1 := hSw.1.cv; have y2 := hSw.1.lt; go_simp; rfl
  try simp only [Act.put, List.getElem_toArray, List.getElem_cons_succ, List.getElem_cons_zero, List.setIfInBounds_toArray, List.set_cons_zero, List.set_cons_succ]
  obtain ⟨U0, hU0⟩ : ∃ U, U = wc.drew := ⟨_, rfl⟩
  have RR := hide (show Bx U0 (W.heap.size + 1 + 1) [.int .i64 0, .string ⟨#[]⟩] by rw [hU0]; exact (unhide R1).drew)
  have BB := hide (show Below W.heap.size W U0 by rw [hU0]; exact (unhide B1).drew)
  rw [← hU0] at hHeld ⊢
  clear hU0 A1 C1 R1 B1
  refine wpAnyH_ready (rs := [6]) (by kernel_rfl) (by simp) ?_
  refine (AllReadyH.cons rfl (fun K hK => ?_) AllReadyH.nil)
  go_simp
  go_at_call 42
  refine (unhide HEN _).mono ?_
  rintro e w4 ⟨rfl, b4⟩
  refine hK.out _ _ (⟨hHeld.1.below b4, hHeld.2.below b4⟩) (fun hHeld => ?_)
  clear hK K
  try simp only [Act.put, List.getElem_toArray, List.getElem_cons_succ, List.getElem_cons_zero, List.setIfInBounds_toArray, List.set_cons_zero, List.set_cons_succ]
  replace RR := hide ((unhide RR).below b4)
  replace BB := hide ((unhide BB).trans (b4.mono (unhide BB).size))
  clear b4
  refine wpAnyH_ready (rs := [7]) (by kernel_rfl) (by simp) ?_
  refine (AllReadyH.cons rfl (fun K hK => ?_) AllReadyH.nil)
  go_simp
  go_at_call 46
  refine (unhide HPF _).mono ?_
  rintro e w5 ⟨rfl, b5⟩
  refine hK.out _ _ (⟨hHeld.1.below b5, hHeld.2.below b5⟩) (fun hHeld => ?_)
  clear hK K
  try simp only [Act.put, List.getElem_toArray, List.getElem_cons_succ, List.getElem_cons_zero, List.setIfInBounds_toArray, List.set_cons_zero, List.set_cons_succ]
  replace RR := hide ((unhide RR).below b5)
  replace BB := hide ((unhide BB).trans (b5.mono (unhide BB).size))
  clear b5
  refine wpAnyH_take (i := 8) (v := ?_) rfl (by kernel_rfl) (by kernel_rfl) (by kernel_rfl) (fun _ _ _ h => h) (Or.inl ⟨by rfl, ?_⟩) hHeld ?_
  rotate_left
  · intro V hSw; have hff := unhide HFL r0 tx V; go_simp; rfl
  try simp only [Act.put, List.getElem_toArray, List.getElem_cons_succ, List.getElem_cons_zero, List.setIfInBounds_toArray, List.set_cons_zero, List.set_cons_succ]
  refine wpAnyH_take (i := 9) (v := ?_) rfl (by kernel_rfl) (by kernel_rfl) (by kernel_rfl) (fun _ _ _ h => h) (Or.inl ⟨by rfl, ?_⟩) hHeld ?_
  rotate_left
  · intro V hSw; go_simp; rfl
  try simp only [Act.put, List.getElem_toArray, List.getElem_cons_succ, List.getElem_cons_zero, List.setIfInBounds_toArray, List.set_cons_zero, List.set_cons_succ]
  refine wpAnyH_take (i := 10) (v := ?_) rfl (by kernel_rfl) (by kernel_rfl) (by kernel_rfl) (fun _ _ _ h => h) (Or.inl ⟨by rfl, ?_⟩) hHeld ?_
  rotate_left
  · intro V hSw; go_simp; rfl
  try simp only [Act.put, List.getElem_toArray, List.getElem_cons_succ, List.getElem_cons_zero, List.setIfInBounds_toArray, List.set_cons_zero, List.set_cons_succ]
  have y1 := (unhide RR).cv
  have y2 := (unhide RR).fz
  have yl := (unhide RR).lt
  have F2 := hide (st2f (unhide RR) (.int .i64 u0) (.string (u1 ++ tx)))
  refine wpAnyH_ready (rs := [11]) (by kernel_rfl) (by simp) ?_
  refine (AllReadyH.cons rfl (fun K hK => ?_) AllReadyH.nil)
  go_simp
  refine hK.out _ _ (⟨Bx.kept hHeld.1 (unhide F2).2.size ((unhide F2).2.block _ hHeld.1.lt (by omega)), Bx.kept hHeld.2 (unhide F2).2.size ((unhide F2).2.block _ hHeld.2.lt (by omega))⟩) (fun hHeld => ?_)
  clear hK K
  try simp only [Act.put, List.getElem_toArray, List.getElem_cons_succ, List.getElem_cons_zero, List.setIfInBounds_toArray, List.set_cons_zero, List.set_cons_succ]
  refine wpAnyH_done (by kernel_rfl) ?_ _
  refine NoPanic.normal ?_
  clear hHeld y1 y2 yl
  go_wp2_with fail
  have c1 := (unhide F2).1.cv
  have B9 := hide ((unhide F2).2.below (base := W.heap.size) (by have := (unhide RR).lt; omega) (fun q hq => by omega))
  refine bodyPost_ret (v := .agg #[.int .i64 u0, .string (u1 ++ tx)]) (by simp [results, Try.results51, go_sem, c1]) rfl ⟨by rw [unhide EU], (unhide BB).trans (unhide B9)⟩
end Go.Proofs.Ytmicpknilhiliaa.Rc
