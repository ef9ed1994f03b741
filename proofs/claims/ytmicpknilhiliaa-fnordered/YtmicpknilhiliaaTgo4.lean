/-
  Contract of the program: newDesk.
-/
import Derived.Test.YtmicpknilhiliaaTgn4
import Derived.Conc.SmallLaws
namespace Go.Proofs.Ytmicpknilhiliaa.Rc
open Go.ChangeShapes Go.WideShapes Go.ChangeAt Go.RowKit Go.Deep Go.Conc
set_option linter.unusedVariables false
set_option maxRecDepth 100000

/-- a channel of the desk: what lies in it -/
def Chn (w : World) (c : Nat) (buf : Array Value) (s r : Nat) : Prop := w.heap[c]? = some (.chan 1 buf false s r false)
theorem Chn.lt {w : World} {c : Nat} {buf : Array Value} {s r : Nat} (h : Chn w c buf s r) : c < w.heap.size := (Array.getElem?_eq_some_iff.1 h).1
theorem Chn.below {w w' : World} {c : Nat} {buf : Array Value} {s r : Nat} (h : Chn w c buf s r) (b : Below w.heap.size w w') : Chn w' c buf s r := (b.block c h.lt).trans h
theorem Chn.new (w : World) : Chn (w.alloc (.chan 1 #[] false 0 0 false)) w.heap.size #[] 0 0 := by
  unfold Chn
  show (w.heap.push _)[w.heap.size]? = _
  exact Array.getElem?_push_size
theorem mkC (w : World) : (Instr.makeChan 48 (.int .i64 1)).run Try.prog w = .ok (.chan (some w.heap.size)) (w.alloc (.chan 1 #[] false 0 0 false)) := by
  have h : (Try.prog.info? 55).map (·.bytes) = some 32 := by kernel_rfl
  obtain ⟨i, hi, hb⟩ := Option.map_eq_some_iff.1 h
  simpa using run_makeChan (P := Try.prog) (w := w) Try.underlying48 hi .i64 1 (by omega) (by rw [hb]; omega)
theorem mkI (w : World) : (Instr.makeChan 49 (.int .i64 1)).run Try.prog w = .ok (.chan (some w.heap.size)) (w.alloc (.chan 1 #[] false 0 0 false)) := by
  have h : (Try.prog.info? 3).map (·.bytes) = some 8 := by kernel_rfl
  obtain ⟨i, hi, hb⟩ := Option.map_eq_some_iff.1 h
  simpa using run_makeChan (P := Try.prog) (w := w) Try.underlying49 hi .i64 1 (by omega) (by rw [hb]; omega)
/-- the desk's cells -/
abbrev deskC (D : InflowD) (a : Option Addr) (c x y : Nat) (rd : Value) : List Value := [.int .i64 D.li, .int .i64 D.re, .int .i64 D.fi, .slice a D.P.length c, .chan (some x), .chan (some y), rd]
set_option maxHeartbeats 4000000 in
theorem implND (D : InflowD) (a : Option Addr) (c : Nat) (W : World) :
    Calls Try.prog 14 #[inflowV D a c] W fun e w' => ∃ x y q, e = .returned (.pointer (some ⟨q, 0, none⟩)) ∧ (W.heap.size ≤ x ∧ W.heap.size ≤ y ∧ x ≠ y ∧ x < q ∧ y < q) ∧ Chn w' x #[] 0 0 ∧ Chn w' y #[] 0 0 ∧ Bx w' q (deskC D a c x y (.slice none 0 0)) ∧ Below W.heap.size W w' := by
  obtain ⟨V0, hV0⟩ : ∃ V, V = W.alloc (.cells (inflowC D a c).toArray 39) := ⟨_, rfl⟩
  have A0 := hide (show Bx V0 W.heap.size (inflowC D a c) by rw [hV0]; exact Bx.new W _ _)
  have B0 := hide (show Below W.heap.size W V0 by rw [hV0]; exact (Below.refl W.heap.size W).alloc (Nat.le_refl _) _)
  have HV0 := hide hV0
  clear hV0
  obtain ⟨U, hU⟩ : ∃ U, U = V0.drew := ⟨_, rfl⟩
  have AU := hide (show Bx U W.heap.size (inflowC D a c) by rw [hU]; exact (unhide A0).drew)
  have BU := hide (show Below W.heap.size W U by rw [hU]; exact (unhide B0).drew)
  have sU := (unhide BU).size
  have HU := hide hU
  clear hU A0 B0
  obtain ⟨U1, hU1⟩ : ∃ V, V = U.alloc (.chan 1 #[] false 0 0 false) := ⟨_, rfl⟩
  have al1 : Below U.heap.size U U1 := by rw [hU1]; exact (Below.refl _ _).alloc (Nat.le_refl _) _
  have A1 := hide ((unhide AU).below al1)
  have X1 := hide (show Chn U1 U.heap.size #[] 0 0 by rw [hU1]; exact Chn.new U)
  have B1 := hide ((unhide BU).trans (al1.mono sU))
  have s1 : U1.heap.size = U.heap.size + 1 := by rw [hU1]; simp
  have HU1 := hide hU1
  clear hU1 al1
  obtain ⟨U2, hU2⟩ : ∃ V, V = U1.alloc (.chan 1 #[] false 0 0 false) := ⟨_, rfl⟩
  have al2 : Below U1.heap.size U1 U2 := by rw [hU2]; exact (Below.refl _ _).alloc (Nat.le_refl _) _
  have A2 := hide ((unhide A1).below al2)
  have X2 := hide ((unhide X1).below al2)
  have Y2 := hide (show Chn U2 (U.heap.size + 1) #[] 0 0 by rw [← s1, hU2]; exact Chn.new U1)
  have B2 := hide ((unhide B1).trans (al2.mono (unhide B1).size))
  have s2 : U2.heap.size = U.heap.size + 2 := by rw [hU2]; simp [s1]
  have HU2 := hide hU2
  clear hU2 al2 X1
  have C : ∀ x y, (x = U.heap.size ∧ y = U.heap.size + 1) ∨ (x = U.heap.size + 1 ∧ y = U.heap.size) → ∃ x' y' q, Ending.returned (.pointer (some ⟨U2.heap.size, 0, none⟩)) = .returned (.pointer (some ⟨q, 0, none⟩)) ∧ (W.heap.size ≤ x' ∧ W.heap.size ≤ y' ∧ x' ≠ y' ∧ x' < q ∧ y' < q) ∧ Chn (U2.alloc (.cells (deskC D a c x y (.slice none 0 0)).toArray 51)) x' #[] 0 0 ∧ Chn (U2.alloc (.cells (deskC D a c x y (.slice none 0 0)).toArray 51)) y' #[] 0 0 ∧ Bx (U2.alloc (.cells (deskC D a c x y (.slice none 0 0)).toArray 51)) q (deskC D a c x' y' (.slice none 0 0)) ∧ Below W.heap.size W (U2.alloc (.cells (deskC D a c x y (.slice none 0 0)).toArray 51)) := by
    intro x y hxy
    have al3 : Below U2.heap.size U2 (U2.alloc (.cells (deskC D a c x y (.slice none 0 0)).toArray 51)) := (Below.refl _ _).alloc (Nat.le_refl _) _
    refine ⟨x, y, U2.heap.size, rfl, ?_, ?_, ?_, Bx.new U2 _ _, (unhide B2).trans (al3.mono (unhide B2).size)⟩
    · rcases hxy with ⟨rfl, rfl⟩ | ⟨rfl, rfl⟩ <;> omega
    · rcases hxy with ⟨rfl, rfl⟩ | ⟨rfl, rfl⟩
      · exact (unhide X2).below al3
      · exact (unhide Y2).below al3
    · rcases hxy with ⟨rfl, rfl⟩ | ⟨rfl, rfl⟩
      · exact (unhide Y2).below al3
      · exact (unhide X2).below al3
  have HC := hide C
  have s3 : U.heap.size ≤ U1.heap.size := by omega
  have s4 : U.heap.size ≤ U2.heap.size := by omega
  clear C B1 B2 X2 Y2 s2
  obtain ⟨li, re, fi, P⟩ := D
  go_enter Try.func14, Try.ntmps14
  go_upto_region 1 with fail
  rw [← unhide HV0]
  clear HV0
  refine wp_region_noPanic ?_
  refine wp_region_held_drew (S := fun V => Below U.heap.size U V) (by kernel_rfl) (by rw [← unhide HU]; exact Below.refl _ _) (fun hHeld => ?_)
  rw [← unhide HU] at hHeld ⊢
  refine wpAnyH_take (i := 0) (v := ?_) rfl (by kernel_rfl) (by kernel_rfl) (by kernel_rfl) (fun _ _ _ h => h) (Or.inl ⟨by rfl, ?_⟩) hHeld ?_
  rotate_left
  · intro V hSw; have y0 := (Bx.below (unhide AU) hSw).cv; have y0l := (Bx.below (unhide AU) hSw).lt; go_simp; rfl
  try simp only [Act.put, List.getElem_toArray, List.getElem_cons_zero, List.setIfInBounds_toArray, List.set_cons_zero, List.set_cons_succ]
  refine wpAnyH_ready (rs := [1, 2]) (by kernel_rfl) (by simp) ?_
  refine (AllReadyH.cons rfl (fun K hK => ?_) (AllReadyH.cons rfl (fun K hK => ?_) AllReadyH.nil))
  · go_simp
    rw [mkC, ← unhide HU1]
    go_simp
    refine hK.out _ _ (by rw [unhide HU1]; exact (Below.refl _ _).alloc (Nat.le_refl _) _) (fun hHeld => ?_)
    clear hK K
    try simp only [Act.put, List.getElem_toArray, List.getElem_cons_succ, List.getElem_cons_zero, List.setIfInBounds_toArray, List.set_cons_zero, List.set_cons_succ]
    refine wpAnyH_ready (rs := [2]) (by kernel_rfl) (by simp) ?_
    refine (AllReadyH.cons rfl (fun K hK => ?_) AllReadyH.nil)
    go_simp
    rw [mkI, s1, ← unhide HU2]
    go_simp
    refine hK.out _ _ (by rw [unhide HU2]; exact hHeld.alloc (by omega) _) (fun hHeld2 => ?_)
    clear hK K
    try simp only [Act.put, List.getElem_toArray, List.getElem_cons_succ, List.getElem_cons_zero, List.setIfInBounds_toArray, List.set_cons_zero, List.set_cons_succ]
    refine wpAnyH_take (i := 3) (v := ?_) rfl (by kernel_rfl) (by kernel_rfl) (by kernel_rfl) (fun _ _ _ h => h) (Or.inl ⟨by rfl, ?_⟩) hHeld2 ?_
    rotate_left
    · intro V hSw; go_simp; rfl
    try simp only [Act.put, List.getElem_toArray, List.getElem_cons_succ, List.getElem_cons_zero, List.setIfInBounds_toArray, List.set_cons_zero, List.set_cons_succ]
    refine wpAnyH_ready (rs := [4]) (by kernel_rfl) (by simp) ?_
    refine (AllReadyH.cons rfl (fun K hK => ?_) AllReadyH.nil)
    go_simp
    refine hK.out _ _ (hHeld2.alloc (by omega) _) (fun hHeld3 => ?_)
    clear hK K
    try simp only [Act.put, List.getElem_toArray, List.getElem_cons_succ, List.getElem_cons_zero, List.setIfInBounds_toArray, List.set_cons_zero, List.set_cons_succ]
    refine wpAnyH_take (i := 5) (v := ?_) rfl (by kernel_rfl) (by kernel_rfl) (by kernel_rfl) (fun _ _ _ h => h) (Or.inl ⟨by rfl, ?_⟩) hHeld3 ?_
    rotate_left
    · intro V hSw; go_simp; rfl
    try simp only [Act.put, List.getElem_toArray, List.getElem_cons_succ, List.getElem_cons_zero, List.setIfInBounds_toArray, List.set_cons_zero, List.set_cons_succ]
    refine wpAnyH_done (by kernel_rfl) ?_ _
    refine NoPanic.normal ?_
    clear hHeld hHeld2 hHeld3
    go_wp2
    go_ret
    exact unhide HC _ _ (Or.inl ⟨rfl, rfl⟩)
  · go_simp
    rw [mkI, ← unhide HU1]
    go_simp
    refine hK.out _ _ (by rw [unhide HU1]; exact (Below.refl _ _).alloc (Nat.le_refl _) _) (fun hHeld => ?_)
    clear hK K
    try simp only [Act.put, List.getElem_toArray, List.getElem_cons_succ, List.getElem_cons_zero, List.setIfInBounds_toArray, List.set_cons_zero, List.set_cons_succ]
    refine wpAnyH_ready (rs := [1]) (by kernel_rfl) (by simp) ?_
    refine (AllReadyH.cons rfl (fun K hK => ?_) AllReadyH.nil)
    go_simp
    rw [mkC, s1, ← unhide HU2]
    go_simp
    refine hK.out _ _ (by rw [unhide HU2]; exact hHeld.alloc (by omega) _) (fun hHeld2 => ?_)
    clear hK K
    try simp only [Act.put, List.getElem_toArray, List.getElem_cons_succ, List.getElem_cons_zero, List.setIfInBounds_toArray, List.set_cons_zero, List.set_cons_succ]
    refine wpAnyH_take (i := 3) (v := ?_) rfl (by kernel_rfl) (by kernel_rfl) (by kernel_rfl) (fun _ _ _ h => h) (Or.inl ⟨by rfl, ?_⟩) hHeld2 ?_
    rotate_left
    · intro V hSw; go_simp; rfl
    try simp only [Act.put, List.getElem_toArray, List.getElem_cons_succ, List.getElem_cons_zero, List.setIfInBounds_toArray, List.set_cons_zero, List.set_cons_succ]
    refine wpAnyH_ready (rs := [4]) (by kernel_rfl) (by simp) ?_
    refine (AllReadyH.cons rfl (fun K hK => ?_) AllReadyH.nil)
    go_simp
    refine hK.out _ _ (hHeld2.alloc (by omega) _) (fun hHeld3 => ?_)
    clear hK K
    try simp only [Act.put, List.getElem_toArray, List.getElem_cons_succ, List.getElem_cons_zero, List.setIfInBounds_toArray, List.set_cons_zero, List.set_cons_succ]
    refine wpAnyH_take (i := 5) (v := ?_) rfl (by kernel_rfl) (by kernel_rfl) (by kernel_rfl) (fun _ _ _ h => h) (Or.inl ⟨by rfl, ?_⟩) hHeld3 ?_
    rotate_left
    · intro V hSw; go_simp; rfl
    try simp only [Act.put, List.getElem_toArray, List.getElem_cons_succ, List.getElem_cons_zero, List.setIfInBounds_toArray, List.set_cons_zero, List.set_cons_succ]
    refine wpAnyH_done (by kernel_rfl) ?_ _
    refine NoPanic.normal ?_
    clear hHeld hHeld2 hHeld3
    go_wp2
    go_ret
    exact unhide HC _ _ (Or.inr ⟨rfl, rfl⟩)
end Go.Proofs.Ytmicpknilhiliaa.Rc
