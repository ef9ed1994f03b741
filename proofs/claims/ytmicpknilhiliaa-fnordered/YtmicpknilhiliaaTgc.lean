/-
  Contracts of the program: what of a piece lies at a place and behind it; two pieces as one.
-/
import Derived.Test.YtmicpknilhiliaaTgb
import Derived.Test.YtmicpknilhiliaaNxp
namespace Go.Proofs.Ytmicpknilhiliaa.Rc
open Go.ChangeShapes Go.WideShapes Go.ChangeAt Go.RowKit Go.Deep
set_option linter.unusedVariables false
set_option maxRecDepth 100000

/-- how much of a piece lies ahead of a place -/
def prC (p : PieceD) (at' : Int) : Nat := min (at' - p.f0).toNat p.f1.size
/-- what of it lies at the place and behind it -/
def prF (p : PieceD) (at' : Int) : PieceD := ⟨p.f0 + (prC p at' : Nat), p.f1.extract (prC p at') p.f1.size⟩
theorem prC_if (p : PieceD) (at' : Int) : ((prC p at' : Nat) : Int) = if (p.f1.size : Int) < (if at' - p.f0 < 0 then 0 else at' - p.f0) then (p.f1.size : Int) else (if at' - p.f0 < 0 then 0 else at' - p.f0) := by
  unfold prC
  split <;> split <;> omega
theorem st2f {U : World} {p : Nat} {z0 z1 : Value} (h : Bx U p [z0, z1]) (v0 v1 : Value) :
    Bx ((U.setCell ⟨p, 0, none⟩ v0).setCell ⟨p, 1, none⟩ v1) p [v0, v1] ∧ Kq (fun q => q = p) U ((U.setCell ⟨p, 0, none⟩ v0).setCell ⟨p, 1, none⟩ v1) :=
  ⟨(h.set (i := 0) (by simp)).set (i := 1) (by simp), ((Kq.refl (fun q => q = p) U).set rfl).set rfl⟩
set_option maxHeartbeats 4000000 in
theorem implPF (p : PieceD) (at' : Int) (W : World) (h0 : -4611686018427387904 ≤ p.f0) (h1 : p.f0 ≤ 4611686018427387904) (h2 : p.f1.size ≤ 1099511627776) (a0 : -1000000000000 ≤ at') (a1 : at' ≤ 1000000000000) :
    Calls Try.prog 46 #[pieceV p, .int .i64 at'] W fun e w' => e = .returned (pieceV (prF p at')) ∧ Below W.heap.size W w' := by
  obtain ⟨V0, hV0⟩ : ∃ V, V = (W.alloc (.cells (pieceC p).toArray 53)).alloc (.cells #[.int .i64 0, .string ⟨#[]⟩] 53) := ⟨_, rfl⟩
  have A0 := hide (show Bx V0 W.heap.size (pieceC p) by rw [hV0]; exact (Bx.new W _ _).alloc _)
  have R0 := hide (show Bx V0 (W.heap.size + 1) [.int .i64 0, .string ⟨#[]⟩] by rw [hV0]; exact Bx.newAt (W.alloc _) _ _ _ (by simp))
  have B0 := hide (show Below W.heap.size W V0 by rw [hV0]; exact ((Below.refl W.heap.size W).alloc (Nat.le_refl _) _).alloc (by simp) _)
  have HV0 := hide hV0
  have x0 := (unhide A0).cv
  have x0l := (unhide A0).lt
  have HC := hide (prC_if p at')
  have hc : prC p at' ≤ p.f1.size := by unfold prC; omega
  have HX : Hid (prF p at' = ⟨p.f0 + (prC p at' : Nat), p.f1.extract (prC p at') p.f1.size⟩) := rfl
  obtain ⟨res, hres⟩ : ∃ x, x = prF p at' := ⟨_, rfl⟩
  rw [← hres] at HX ⊢
  generalize prC p at' = n at *
  obtain ⟨f0, f1⟩ := p
  dsimp only at *
  clear hV0 hres
  have w1 : IntKind.i64.wrap (at' - f0) = at' - f0 := by rw [IntKind.wrap_i64]; omega
  have w2 : IntKind.i64.wrap (f0 + (n : Int)) = f0 + (n : Int) := by rw [IntKind.wrap_i64]; omega
  have w3 : IntKind.i64.wrap (n : Int) = (n : Int) := by rw [IntKind.wrap_i64]; omega
  have wz : IntKind.i64.wrap (f1.size : Int) = (f1.size : Int) := by rw [IntKind.wrap_i64]; omega
  have n1 : (0 : Int) ≤ (n : Int) := by omega
  have n2 : (n : Int) ≤ (f1.size : Int) := by omega
  have n3 : (0 : Int) ≤ (f1.size : Int) := by omega
  have n4 : ((n : Int)).toNat = n := rfl
  have n5 : ((f1.size : Int)).toNat = f1.size := rfl
  go_enter Try.func46, Try.ntmps46
  go_upto_region 1 with fail
  rw [← unhide HV0]
  clear HV0
  go_upto_region 2 with fail
  rw [← unhide HC]
  clear HC w1
  refine wp_region_noPanic ?_
  refine wp_region_held_drew (S := fun V => Bx V W.heap.size [.int .i64 f0, .string f1]) (by kernel_rfl) ((unhide A0).drew) (fun hHeld => ?_)
  refine wpAnyH_take (i := 0) (v := ?_) rfl (by kernel_rfl) (by kernel_rfl) (by kernel_rfl) (fun _ _ _ h => h) (Or.inl ⟨by rfl, ?_⟩) hHeld ?_
  rotate_left
  · intro V hSw; have y1 := hSw.cv; have y2 := hSw.lt; go_simp; rfl
  try simp only [Act.put, List.getElem_toArray, List.getElem_cons_zero, List.setIfInBounds_toArray, List.set_cons_zero, List.set_cons_succ]
  refine wpAnyH_take (i := 1) (v := ?_) rfl (by kernel_rfl) (by kernel_rfl) (by kernel_rfl) (fun _ _ _ h => h) (Or.inl ⟨by rfl, ?_⟩) hHeld ?_
  rotate_left
  · intro V hSw; have y1 := hSw.cv; have y2 := hSw.lt; go_simp; rfl
  try simp only [Act.put, List.getElem_toArray, List.getElem_cons_succ, List.getElem_cons_zero, List.setIfInBounds_toArray, List.set_cons_zero, List.set_cons_succ]
  refine wpAnyH_take (i := 2) (v := ?_) rfl (by kernel_rfl) (by kernel_rfl) (by kernel_rfl) (fun _ _ _ h => h) (Or.inl ⟨by rfl, ?_⟩) hHeld ?_
  rotate_left
  · intro V hSw; have y1 := hSw.cv; have y2 := hSw.lt; go_simp; rfl
  try simp only [Act.put, List.getElem_toArray, List.getElem_cons_succ, List.getElem_cons_zero, List.setIfInBounds_toArray, List.set_cons_zero, List.set_cons_succ]
  refine wpAnyH_take (i := 3) (v := ?_) rfl (by kernel_rfl) (by kernel_rfl) (by kernel_rfl) (fun _ _ _ h => h) (Or.inl ⟨by rfl, ?_⟩) hHeld ?_
  rotate_left
  · intro V hSw; have y1 := hSw.cv; have y2 := hSw.lt; go_simp; rfl
  try simp only [Act.put, List.getElem_toArray, List.getElem_cons_succ, List.getElem_cons_zero, List.setIfInBounds_toArray, List.set_cons_zero, List.set_cons_succ]
  refine wpAnyH_take (i := 4) (v := ?_) rfl (by kernel_rfl) (by kernel_rfl) (by kernel_rfl) (fun _ _ _ h => h) (Or.inl ⟨by rfl, ?_⟩) hHeld ?_
  rotate_left
  · intro V hSw; have y1 := hSw.cv; have y2 := hSw.lt; go_simp; rfl
  try simp only [Act.put, List.getElem_toArray, List.getElem_cons_succ, List.getElem_cons_zero, List.setIfInBounds_toArray, List.set_cons_zero, List.set_cons_succ]
  refine wpAnyH_take (i := 5) (v := ?_) rfl (by kernel_rfl) (by kernel_rfl) (by kernel_rfl) (fun _ _ _ h => h) (Or.inl ⟨by rfl, ?_⟩) hHeld ?_
  rotate_left
  · intro V hSw; have y1 := hSw.cv; have y2 := hSw.lt; go_simp; rfl
  try simp only [Act.put, List.getElem_toArray, List.getElem_cons_succ, List.getElem_cons_zero, List.setIfInBounds_toArray, List.set_cons_zero, List.set_cons_succ]
  refine wpAnyH_take (i := 6) (v := ?_) rfl (by kernel_rfl) (by kernel_rfl) (by kernel_rfl) (fun _ _ _ h => h) (Or.inl ⟨by rfl, ?_⟩) hHeld ?_
  rotate_left
  · intro V hSw; have y1 := hSw.cv; have y2 := hSw.lt; go_simp; rfl
  try simp only [Act.put, List.getElem_toArray, List.getElem_cons_succ, List.getElem_cons_zero, List.setIfInBounds_toArray, List.set_cons_zero, List.set_cons_succ]
  refine wpAnyH_take (i := 7) (v := ?_) rfl (by kernel_rfl) (by kernel_rfl) (by kernel_rfl) (fun _ _ _ h => h) (Or.inl ⟨by rfl, ?_⟩) hHeld ?_
  rotate_left
  · intro V hSw; have y1 := hSw.cv; have y2 := hSw.lt; go_simp; rfl
  try simp only [Act.put, List.getElem_toArray, List.getElem_cons_succ, List.getElem_cons_zero, List.setIfInBounds_toArray, List.set_cons_zero, List.set_cons_succ]
  refine wpAnyH_take (i := 8) (v := ?_) rfl (by kernel_rfl) (by kernel_rfl) (by kernel_rfl) (fun _ _ _ h => h) (Or.inl ⟨by rfl, ?_⟩) hHeld ?_
  rotate_left
  · intro V hSw; have y1 := hSw.cv; have y2 := hSw.lt; go_simp; rfl
  try simp only [Act.put, List.getElem_toArray, List.getElem_cons_succ, List.getElem_cons_zero, List.setIfInBounds_toArray, List.set_cons_zero, List.set_cons_succ]
  obtain ⟨U0, hU0⟩ : ∃ U, U = V0.drew := ⟨_, rfl⟩
  replace R0 := hide (show Bx U0 (W.heap.size + 1) [.int .i64 0, .string ⟨#[]⟩] by rw [hU0]; exact (unhide R0).drew)
  replace B0 := hide (show Below W.heap.size W U0 by rw [hU0]; exact (unhide B0).drew)
  rw [← hU0] at hHeld ⊢
  clear hU0 x0 x0l A0
  have y1 := (unhide R0).cv
  have y2 := (unhide R0).fz
  have yl := (unhide R0).lt
  have F2 := hide (st2f (unhide R0) (.int .i64 (f0 + (n : Int))) (.string (f1.extract n f1.size)))
  refine wpAnyH_ready (rs := [9]) (by kernel_rfl) (by simp) ?_
  refine (AllReadyH.cons rfl (fun K hK => ?_) AllReadyH.nil)
  go_simp
  refine hK.out _ _ (Bx.kept hHeld (unhide F2).2.size ((unhide F2).2.block _ hHeld.lt (by omega))) (fun hHeld => ?_)
  clear hK K
  try simp only [Act.put, List.getElem_toArray, List.getElem_cons_succ, List.getElem_cons_zero, List.setIfInBounds_toArray, List.set_cons_zero, List.set_cons_succ]
  refine wpAnyH_done (by kernel_rfl) ?_ _
  refine NoPanic.normal ?_
  clear hHeld y1 y2 yl
  go_wp2_with fail
  all_goals
    have c1 := (unhide F2).1.cv
    have B9 := hide ((unhide F2).2.below (base := W.heap.size) (by have := (unhide R0).lt; omega) (fun q hq => by omega))
    refine bodyPost_ret (v := .agg #[.int .i64 (f0 + (n : Int)), .string (f1.extract n f1.size)]) (by simp [results, Try.results46, go_sem, c1]) rfl ⟨by rw [unhide HX], (unhide B0).trans (unhide B9)⟩
end Go.Proofs.Ytmicpknilhiliaa.Rc
