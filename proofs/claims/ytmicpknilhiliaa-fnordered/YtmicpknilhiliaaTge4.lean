/-
  Contracts of the program: whether a piece clashes with others.
-/
import Derived.Test.YtmicpknilhiliaaTgd4
import Derived.Laws.Cover1
namespace Go.Proofs.Ytmicpknilhiliaa.Rc
open Go.ChangeShapes Go.WideShapes Go.ChangeAt Go.RowKit Go.Deep
set_option linter.unusedVariables false
set_option maxRecDepth 100000

/-- where two pieces lie over each other, from and to -/
def cfr (x y : PieceD) : Int := if x.f0 < y.f0 then y.f0 else x.f0
def cto (x y : PieceD) : Int := if pE y < pE x then pE y else pE x
def cxT (x : PieceD) (f t : Int) : ByteArray := x.f1.extract (f - x.f0).toNat (t - x.f0).toNat
def cloB (x y : PieceD) : Bool := decide (cfr x y < cto x y) && !decide (cxT x (cfr x y) (cto x y) = cxT y (cfr x y) (cto x y))
theorem cxT_at {x : PieceD} {f t : Int} {j : Nat} (h0 : x.f0 ≤ f) (h1 : f + j < t) (h2 : t ≤ pE x) : (cxT x f t).data[j]? = x.f1.data[(f - x.f0).toNat + j]? := by
  unfold cxT
  rw [ByteArray.data_extract, Array.getElem?_extract, if_pos (by have : x.f1.data.size = x.f1.size := rfl; unfold pE at h2; omega)]
theorem tl_eq (A B : ByteArray) : (A.toList == B.toList) = decide (A = B) := by
  rw [Bool.eq_iff_iff, beq_iff_eq, decide_eq_true_eq]
  constructor
  · intro h
    rw [Lib.toList_data, Lib.toList_data] at h
    exact ByteArray.ext (Array.toList_inj.1 h)
  · rintro rfl
    rfl
theorem clo_is (x y : PieceD) : cloB x y = clP y x.f0 x.f1 := by
  have hf : x.f0 ≤ cfr x y ∧ y.f0 ≤ cfr x y ∧ (cfr x y = x.f0 ∨ cfr x y = y.f0) := by unfold cfr; split <;> omega
  have ht : cto x y ≤ pE x ∧ cto x y ≤ pE y ∧ (cto x y = pE x ∨ cto x y = pE y) := by unfold cto; split <;> omega
  unfold cloB clP
  generalize cfr x y = f at *
  generalize cto x y = t at *
  have px : pE x = x.f0 + x.f1.size := rfl
  have py : pE y = y.f0 + y.f1.size := rfl
  have sx : x.f1.data.size = x.f1.size := rfl
  have sy : y.f1.data.size = y.f1.size := rfl
  rw [Bool.eq_iff_iff]
  simp only [Bool.and_eq_true, decide_eq_true_eq, Bool.not_eq_true', decide_eq_false_iff_not, List.any_eq_true, List.mem_range]
  constructor
  · rintro ⟨hlt, hne⟩
    apply Classical.byContradiction
    intro hno
    apply hne
    apply ByteArray.ext
    apply Array.ext_getElem?
    intro j
    by_cases hj : f + j < t
    · rw [cxT_at hf.1 hj ht.1, cxT_at hf.2.1 hj ht.2.1]
      apply Classical.byContradiction
      intro h1
      apply hno
      refine ⟨(f - y.f0).toNat + j, by omega, ?_⟩
      unfold cl1
      rw [show y.f0 + (((f - y.f0).toNat + j : Nat) : Int) - x.f0 = (((f - x.f0).toNat + j : Nat) : Int) by omega, decide_eq_true (by omega), decide_eq_true (by omega), Int.toNat_natCast]
      simp only [Bool.and_self, Bool.true_and, bne_iff_ne, ne_eq]
      exact h1
    · rw [Array.getElem?_eq_none (by unfold cxT; rw [ByteArray.data_extract, Array.size_extract]; omega), Array.getElem?_eq_none (by unfold cxT; rw [ByteArray.data_extract, Array.size_extract]; omega)]
  · rintro ⟨i, hi, hc⟩
    unfold cl1 at hc
    simp only [Bool.and_eq_true, decide_eq_true_eq, bne_iff_ne, ne_eq] at hc
    obtain ⟨⟨h0, h1⟩, h2⟩ := hc
    have hlt : f < t := by omega
    refine ⟨hlt, fun e => h2 ?_⟩
    have hj : f + ((y.f0 + i - f).toNat : Nat) < t := by omega
    have a1 := cxT_at (x := x) hf.1 hj ht.1
    have a2 := cxT_at (x := y) hf.2.1 hj ht.2.1
    rw [e, a2, show (f - y.f0).toNat + (y.f0 + i - f).toNat = i by omega, show (f - x.f0).toNat + (y.f0 + i - f).toNat = (y.f0 + i - x.f0).toNat by omega] at a1
    exact a1.symm
set_option maxHeartbeats 8000000 in
theorem implCl (x y : PieceD) (pb : Nat) (W : World) (lx : okP [x]) (ly : lowP y) (hx : Bx W pb (pieceC x)) :
    Calls Try.prog 50 #[pieceV y, .pointer (some ⟨pb, 0, none⟩)] W fun e w' => e = .returned (.bool (cloB x y)) ∧ Below W.heap.size W w' := by
  obtain ⟨V0, hV0⟩ : ∃ V, V = W.alloc (.cells (pieceC y).toArray 53) := ⟨_, rfl⟩
  have A0 := hide (show Bx V0 W.heap.size (pieceC y) by rw [hV0]; exact Bx.new W _ _)
  have X0 := hide (show Bx V0 pb (pieceC x) by rw [hV0]; exact hx.alloc _)
  have B0 := hide (show Below W.heap.size W V0 by rw [hV0]; exact (Below.refl W.heap.size W).alloc (Nat.le_refl _) _)
  have HV0 := hide hV0
  have okx := lx x List.mem_cons_self
  have HEX := hide (fun W => implEnd x W okx.1.1 okx.1.2 okx.2)
  have HEY := hide (fun W => implEnd y W (by have := ly.1; omega) (by have := ly.2; unfold pE at this; omega) (by have := ly.1; have := ly.2; unfold pE at this; omega))
  have HF : Hid (cfr x y = if x.f0 < y.f0 then y.f0 else x.f0) := rfl
  have HT : Hid (cto x y = if pE y < pE x then pE y else pE x) := rfl
  have hf : x.f0 ≤ cfr x y ∧ y.f0 ≤ cfr x y := by unfold cfr; split <;> omega
  have ht : cto x y ≤ pE x ∧ cto x y ≤ pE y := by unfold cto; split <;> omega
  have HX : Hid (cxT x (cfr x y) (cto x y) = x.f1.extract (cfr x y - x.f0).toNat (cto x y - x.f0).toNat) := rfl
  have HY : Hid (cxT y (cfr x y) (cto x y) = y.f1.extract (cfr x y - y.f0).toNat (cto x y - y.f0).toNat) := rfl
  have HE : Hid (cloB x y = (decide (cfr x y < cto x y) && !decide (cxT x (cfr x y) (cto x y) = cxT y (cfr x y) (cto x y)))) := rfl
  clear hV0 hx lx
  obtain ⟨g, hg⟩ : ∃ g, cloB x y = g := ⟨_, rfl⟩
  rw [hg] at HE ⊢
  clear hg
  have px : pE x = x.f0 + x.f1.size := rfl
  have py : pE y = y.f0 + y.f1.size := rfl
  generalize cfr x y = fr at *
  generalize cto x y = to' at *
  generalize cxT x fr to' = tx at *
  generalize cxT y fr to' = ty at *
  generalize pE x = ex at *
  generalize pE y = ey at *
  obtain ⟨x0, x1⟩ := x
  obtain ⟨y0, y1⟩ := y
  dsimp only at *
  go_enter Try.func50, Try.ntmps50
  go_upto_region 1 with fail
  rw [← unhide HV0]
  clear HV0
  go_cut [4, 5] (fun s4 s5 wx => s4 = .int .i64 fr ∧ s5 = .int .i64 to' ∧ Hid (Below V0.heap.size V0 wx))
  case first =>
    refine wp_region_noPanic ?_
    refine wp_region_held_drew (S := fun V => Below V0.heap.size V0 V) (by kernel_rfl) ((Below.refl _ _).drew) (fun hHeld => ?_)
    refine wpAnyH_take (i := 0) (v := ?_) rfl (by kernel_rfl) (by kernel_rfl) (by kernel_rfl) (fun _ _ _ h => h) (Or.inl ⟨by rfl, ?_⟩) hHeld ?_
    rotate_left
    · intro V hSw; have y1 := (Bx.below (unhide A0) hSw).cv; have y2 := (Bx.below (unhide A0) hSw).lt; have z1 := (Bx.below (unhide X0) hSw).cv; have z2 := (Bx.below (unhide X0) hSw).lt; go_simp; rfl
    try simp only [Act.put, List.getElem_toArray, List.getElem_cons_zero, List.setIfInBounds_toArray, List.set_cons_zero, List.set_cons_succ]
    refine wpAnyH_take (i := 1) (v := ?_) rfl (by kernel_rfl) (by kernel_rfl) (by kernel_rfl) (fun _ _ _ h => h) (Or.inl ⟨by rfl, ?_⟩) hHeld ?_
    rotate_left
    · intro V hSw; have y1 := (Bx.below (unhide A0) hSw).cv; have y2 := (Bx.below (unhide A0) hSw).lt; have z1 := (Bx.below (unhide X0) hSw).cv; have z2 := (Bx.below (unhide X0) hSw).lt; go_simp; rfl
    try simp only [Act.put, List.getElem_toArray, List.getElem_cons_succ, List.getElem_cons_zero, List.setIfInBounds_toArray, List.set_cons_zero, List.set_cons_succ]
    refine wpAnyH_take (i := 2) (v := ?_) rfl (by kernel_rfl) (by kernel_rfl) (by kernel_rfl) (fun _ _ _ h => h) (Or.inl ⟨by rfl, ?_⟩) hHeld ?_
    rotate_left
    · intro V hSw; have y1 := (Bx.below (unhide A0) hSw).cv; have y2 := (Bx.below (unhide A0) hSw).lt; have z1 := (Bx.below (unhide X0) hSw).cv; have z2 := (Bx.below (unhide X0) hSw).lt; go_simp; rfl
    try simp only [Act.put, List.getElem_toArray, List.getElem_cons_succ, List.getElem_cons_zero, List.setIfInBounds_toArray, List.set_cons_zero, List.set_cons_succ]
    refine wpAnyH_take (i := 3) (v := ?_) rfl (by kernel_rfl) (by kernel_rfl) (by kernel_rfl) (fun _ _ _ h => h) (Or.inl ⟨by rfl, ?_⟩) hHeld ?_
    rotate_left
    · intro V hSw; have y1 := (Bx.below (unhide A0) hSw).cv; have y2 := (Bx.below (unhide A0) hSw).lt; have z1 := (Bx.below (unhide X0) hSw).cv; have z2 := (Bx.below (unhide X0) hSw).lt; go_simp; rfl
    try simp only [Act.put, List.getElem_toArray, List.getElem_cons_succ, List.getElem_cons_zero, List.setIfInBounds_toArray, List.set_cons_zero, List.set_cons_succ]
    refine wpAnyH_take (i := 4) (v := ?_) rfl (by kernel_rfl) (by kernel_rfl) (by kernel_rfl) (fun _ _ _ h => h) (Or.inl ⟨by rfl, ?_⟩) hHeld ?_
    rotate_left
    · intro V hSw; have y1 := (Bx.below (unhide A0) hSw).cv; have y2 := (Bx.below (unhide A0) hSw).lt; have z1 := (Bx.below (unhide X0) hSw).cv; have z2 := (Bx.below (unhide X0) hSw).lt; go_simp; rfl
    try simp only [Act.put, List.getElem_toArray, List.getElem_cons_succ, List.getElem_cons_zero, List.setIfInBounds_toArray, List.set_cons_zero, List.set_cons_succ]
    refine wpAnyH_take (i := 5) (v := ?_) rfl (by kernel_rfl) (by kernel_rfl) (by kernel_rfl) (fun _ _ _ h => h) (Or.inl ⟨by rfl, ?_⟩) hHeld ?_
    rotate_left
    · intro V hSw; have y1 := (Bx.below (unhide A0) hSw).cv; have y2 := (Bx.below (unhide A0) hSw).lt; have z1 := (Bx.below (unhide X0) hSw).cv; have z2 := (Bx.below (unhide X0) hSw).lt; go_simp; rfl
    try simp only [Act.put, List.getElem_toArray, List.getElem_cons_succ, List.getElem_cons_zero, List.setIfInBounds_toArray, List.set_cons_zero, List.set_cons_succ]
    refine wpAnyH_take (i := 7) (v := ?_) rfl (by kernel_rfl) (by kernel_rfl) (by kernel_rfl) (fun _ _ _ h => h) (Or.inl ⟨by rfl, ?_⟩) hHeld ?_
    rotate_left
    · intro V hSw; have y1 := (Bx.below (unhide A0) hSw).cv; have y2 := (Bx.below (unhide A0) hSw).lt; have z1 := (Bx.below (unhide X0) hSw).cv; have z2 := (Bx.below (unhide X0) hSw).lt; go_simp; rfl
    try simp only [Act.put, List.getElem_toArray, List.getElem_cons_succ, List.getElem_cons_zero, List.setIfInBounds_toArray, List.set_cons_zero, List.set_cons_succ]
    refine wpAnyH_ready (rs := [6]) (by kernel_rfl) (by simp) ?_
    refine (AllReadyH.cons rfl (fun K hK => ?_) AllReadyH.nil)
    go_simp
    go_at_call 42
    refine (unhide HEX _).mono ?_
    rintro e w4 ⟨rfl, b4⟩
    refine hK.out _ _ (hHeld.trans (b4.mono hHeld.size)) (fun hHeld => ?_)
    clear hK K
    try simp only [Act.put, List.getElem_toArray, List.getElem_cons_succ, List.getElem_cons_zero, List.setIfInBounds_toArray, List.set_cons_zero, List.set_cons_succ]
    clear b4
    refine wpAnyH_ready (rs := [8]) (by kernel_rfl) (by simp) ?_
    refine (AllReadyH.cons rfl (fun K hK => ?_) AllReadyH.nil)
    go_simp
    go_at_call 42
    refine (unhide HEY _).mono ?_
    rintro e w5 ⟨rfl, b5⟩
    refine hK.out _ _ (hHeld.trans (b5.mono hHeld.size)) (fun hHeld => ?_)
    clear hK K
    try simp only [Act.put, List.getElem_toArray, List.getElem_cons_succ, List.getElem_cons_zero, List.setIfInBounds_toArray, List.set_cons_zero, List.set_cons_succ]
    clear b5
    refine wpAnyH_take (i := 9) (v := ?_) rfl (by kernel_rfl) (by kernel_rfl) (by kernel_rfl) (fun _ _ _ h => h) (Or.inl ⟨by rfl, ?_⟩) hHeld ?_
    rotate_left
    · intro V hSw; go_simp; rfl
    try simp only [Act.put, List.getElem_toArray, List.getElem_cons_succ, List.getElem_cons_zero, List.setIfInBounds_toArray, List.set_cons_zero, List.set_cons_succ]
    refine wpAnyH_take (i := 10) (v := ?_) rfl (by kernel_rfl) (by kernel_rfl) (by kernel_rfl) (fun _ _ _ h => h) (Or.inl ⟨by rfl, ?_⟩) hHeld ?_
    rotate_left
    · intro V hSw; go_simp; rfl
    try simp only [Act.put, List.getElem_toArray, List.getElem_cons_succ, List.getElem_cons_zero, List.setIfInBounds_toArray, List.set_cons_zero, List.set_cons_succ]
    refine wpAnyH_take (i := 11) (v := ?_) rfl (by kernel_rfl) (by kernel_rfl) (by kernel_rfl) (fun _ _ _ h => h) (Or.inl ⟨by rfl, ?_⟩) hHeld ?_
    rotate_left
    · intro V hSw; go_simp; rfl
    try simp only [Act.put, List.getElem_toArray, List.getElem_cons_succ, List.getElem_cons_zero, List.setIfInBounds_toArray, List.set_cons_zero, List.set_cons_succ]
    refine wpAnyH_done (by kernel_rfl) ?_ _
    refine NoPanic.normal ?_
    have HH := hide hHeld
    clear hHeld
    go_wp2_with fail
    all_goals
      go_meet
      exact ⟨congrArg (Value.int .i64) (by rw [unhide HF]; split <;> omega), congrArg (Value.int .i64) (by rw [unhide HT]; split <;> omega), unhide HH⟩
  case rest =>
  obtain ⟨rfl, rfl, hB⟩ := hcut
  have A1 := hide ((unhide A0).below (unhide hB))
  have X1 := hide ((unhide X0).below (unhide hB))
  have B1 := hide ((unhide B0).trans ((unhide hB).mono (unhide B0).size))
  clear A0 X0 B0 hB HF HT HEX HEY
  obtain ⟨W2, hW2⟩ : ∃ W, W = wc := ⟨_, rfl⟩
  subst hW2
  go_upto_region 2 with fail
  by_cases hlt : fr < to'
  · have HE2 : Hid (g = !decide (tx = ty)) := by show _ = _; rw [unhide HE, decide_eq_true hlt]; rfl
    obtain ⟨n1, hn1⟩ : ∃ n : Nat, fr - x0 = n := ⟨(fr - x0).toNat, by omega⟩
    obtain ⟨n2, hn2⟩ : ∃ n : Nat, to' - x0 = n := ⟨(to' - x0).toNat, by omega⟩
    obtain ⟨n3, hn3⟩ : ∃ n : Nat, fr - y0 = n := ⟨(fr - y0).toNat, by omega⟩
    obtain ⟨n4, hn4⟩ : ∃ n : Nat, to' - y0 = n := ⟨(to' - y0).toNat, by omega⟩
    have hx : Hid (tx = x1.extract n1 n2) := by show _ = _; rw [unhide HX, hn1, hn2]; rfl
    have hy : Hid (ty = y1.extract n3 n4) := by show _ = _; rw [unhide HY, hn3, hn4]; rfl
    have ly0 : 0 ≤ y0 := ly.1
    have ly1 : y0 + y1.size ≤ 1000000 := ly.2
    have e1 : IntKind.i64.wrap (fr - x0) = (n1 : Int) := by rw [IntKind.wrap_i64]; omega
    have e2 : IntKind.i64.wrap (to' - x0) = (n2 : Int) := by rw [IntKind.wrap_i64]; omega
    have e3 : IntKind.i64.wrap (fr - y0) = (n3 : Int) := by rw [IntKind.wrap_i64]; omega
    have e4 : IntKind.i64.wrap (to' - y0) = (n4 : Int) := by rw [IntKind.wrap_i64]; omega
    have d1 : (0 : Int) ≤ (n1 : Int) := by omega
    have d2 : (n1 : Int) ≤ (n2 : Int) := by omega
    have d3 : (n2 : Int) ≤ (x1.size : Int) := by omega
    have d4 : (0 : Int) ≤ (n2 : Int) := by omega
    have d5 : (0 : Int) ≤ (n3 : Int) := by omega
    have d6 : (n3 : Int) ≤ (n4 : Int) := by omega
    have d7 : (n4 : Int) ≤ (y1.size : Int) := by omega
    have d8 : (0 : Int) ≤ (n4 : Int) := by omega
    have q1 : IntKind.i64.wrap (n1 : Int) = (n1 : Int) := by rw [IntKind.wrap_i64]; omega
    have q2 : IntKind.i64.wrap (n2 : Int) = (n2 : Int) := by rw [IntKind.wrap_i64]; omega
    have q3 : IntKind.i64.wrap (n3 : Int) = (n3 : Int) := by rw [IntKind.wrap_i64]; omega
    have q4 : IntKind.i64.wrap (n4 : Int) = (n4 : Int) := by rw [IntKind.wrap_i64]; omega
    have t9 : decide (fr < to') = true := decide_eq_true hlt
    clear HE HX HY hn1 hn2 hn3 hn4 px py ly ly0 ly1 hf ht okx
    refine wp_region_noPanic ?_
    refine wp_region_held_drew (S := fun V => Below W2.heap.size W2 V) (by kernel_rfl) ((Below.refl _ _).drew) (fun hHeld => ?_)
    refine wpAnyH_take (i := 0) (v := ?_) rfl (by kernel_rfl) (by kernel_rfl) (by kernel_rfl) (fun _ _ _ h => h) (Or.inl ⟨by rfl, ?_⟩) hHeld ?_
    rotate_left
    · intro V hSw; have y1 := (Bx.below (unhide A1) hSw).cv; have y2 := (Bx.below (unhide A1) hSw).lt; have z1 := (Bx.below (unhide X1) hSw).cv; have z2 := (Bx.below (unhide X1) hSw).lt; go_simp; rfl
    try simp only [Act.put, List.getElem_toArray, List.getElem_cons_zero, List.setIfInBounds_toArray, List.set_cons_zero, List.set_cons_succ]
    refine wpAnyH_take (i := 1) (v := ?_) rfl (by kernel_rfl) (by kernel_rfl) (by kernel_rfl) (fun _ _ _ h => h) (Or.inl ⟨by rfl, ?_⟩) hHeld ?_
    rotate_left
    · intro V hSw; have y1 := (Bx.below (unhide A1) hSw).cv; have y2 := (Bx.below (unhide A1) hSw).lt; have z1 := (Bx.below (unhide X1) hSw).cv; have z2 := (Bx.below (unhide X1) hSw).lt; go_simp; rfl
    try simp only [Act.put, List.getElem_toArray, List.getElem_cons_succ, List.getElem_cons_zero, List.setIfInBounds_toArray, List.set_cons_zero, List.set_cons_succ]
    refine wpAnyH_take (i := 2) (v := ?_) rfl (by kernel_rfl) (by kernel_rfl) (by kernel_rfl) (fun _ _ _ h => h) (Or.inl ⟨by rfl, ?_⟩) hHeld ?_
    rotate_left
    · intro V hSw; have y1 := (Bx.below (unhide A1) hSw).cv; have y2 := (Bx.below (unhide A1) hSw).lt; have z1 := (Bx.below (unhide X1) hSw).cv; have z2 := (Bx.below (unhide X1) hSw).lt; go_simp; rfl
    try simp only [Act.put, List.getElem_toArray, List.getElem_cons_succ, List.getElem_cons_zero, List.setIfInBounds_toArray, List.set_cons_zero, List.set_cons_succ]
    refine wpAnyH_take (i := 3) (v := ?_) rfl (by kernel_rfl) (by kernel_rfl) (by kernel_rfl) (fun _ _ _ h => h) (Or.inl ⟨by rfl, ?_⟩) hHeld ?_
    rotate_left
    · intro V hSw; have y1 := (Bx.below (unhide A1) hSw).cv; have y2 := (Bx.below (unhide A1) hSw).lt; have z1 := (Bx.below (unhide X1) hSw).cv; have z2 := (Bx.below (unhide X1) hSw).lt; go_simp; rfl
    try simp only [Act.put, List.getElem_toArray, List.getElem_cons_succ, List.getElem_cons_zero, List.setIfInBounds_toArray, List.set_cons_zero, List.set_cons_succ]
    refine wpAnyH_take (i := 4) (v := ?_) rfl (by kernel_rfl) (by kernel_rfl) (by kernel_rfl) (fun _ _ _ h => h) (Or.inl ⟨by rfl, ?_⟩) hHeld ?_
    rotate_left
    · intro V hSw; have y1 := (Bx.below (unhide A1) hSw).cv; have y2 := (Bx.below (unhide A1) hSw).lt; have z1 := (Bx.below (unhide X1) hSw).cv; have z2 := (Bx.below (unhide X1) hSw).lt; go_simp; rfl
    try simp only [Act.put, List.getElem_toArray, List.getElem_cons_succ, List.getElem_cons_zero, List.setIfInBounds_toArray, List.set_cons_zero, List.set_cons_succ]
    refine wpAnyH_take (i := 5) (v := ?_) rfl (by kernel_rfl) (by kernel_rfl) (by kernel_rfl) (fun _ _ _ h => h) (Or.inl ⟨by rfl, ?_⟩) hHeld ?_
    rotate_left
    · intro V hSw; have y1 := (Bx.below (unhide A1) hSw).cv; have y2 := (Bx.below (unhide A1) hSw).lt; have z1 := (Bx.below (unhide X1) hSw).cv; have z2 := (Bx.below (unhide X1) hSw).lt; go_simp; rfl
    try simp only [Act.put, List.getElem_toArray, List.getElem_cons_succ, List.getElem_cons_zero, List.setIfInBounds_toArray, List.set_cons_zero, List.set_cons_succ]
    refine wpAnyH_take (i := 6) (v := ?_) rfl (by kernel_rfl) (by kernel_rfl) (by kernel_rfl) (fun _ _ _ h => h) (Or.inl ⟨by rfl, ?_⟩) hHeld ?_
    rotate_left
    · intro V hSw; have y1 := (Bx.below (unhide A1) hSw).cv; have y2 := (Bx.below (unhide A1) hSw).lt; have z1 := (Bx.below (unhide X1) hSw).cv; have z2 := (Bx.below (unhide X1) hSw).lt; go_simp; rfl
    try simp only [Act.put, List.getElem_toArray, List.getElem_cons_succ, List.getElem_cons_zero, List.setIfInBounds_toArray, List.set_cons_zero, List.set_cons_succ]
    refine wpAnyH_take (i := 7) (v := ?_) rfl (by kernel_rfl) (by kernel_rfl) (by kernel_rfl) (fun _ _ _ h => h) (Or.inl ⟨by rfl, ?_⟩) hHeld ?_
    rotate_left
    · intro V hSw; have y1 := (Bx.below (unhide A1) hSw).cv; have y2 := (Bx.below (unhide A1) hSw).lt; have z1 := (Bx.below (unhide X1) hSw).cv; have z2 := (Bx.below (unhide X1) hSw).lt; go_simp; rfl
    try simp only [Act.put, List.getElem_toArray, List.getElem_cons_succ, List.getElem_cons_zero, List.setIfInBounds_toArray, List.set_cons_zero, List.set_cons_succ]
    refine wpAnyH_take (i := 8) (v := ?_) rfl (by kernel_rfl) (by kernel_rfl) (by kernel_rfl) (fun _ _ _ h => h) (Or.inl ⟨by rfl, ?_⟩) hHeld ?_
    rotate_left
    · intro V hSw; have y1 := (Bx.below (unhide A1) hSw).cv; have y2 := (Bx.below (unhide A1) hSw).lt; have z1 := (Bx.below (unhide X1) hSw).cv; have z2 := (Bx.below (unhide X1) hSw).lt; go_simp; rfl
    try simp only [Act.put, List.getElem_toArray, List.getElem_cons_succ, List.getElem_cons_zero, List.setIfInBounds_toArray, List.set_cons_zero, List.set_cons_succ]
    refine wpAnyH_take (i := 9) (v := ?_) rfl (by kernel_rfl) (by kernel_rfl) (by kernel_rfl) (fun _ _ _ h => h) (Or.inl ⟨by rfl, ?_⟩) hHeld ?_
    rotate_left
    · intro V hSw; have y1 := (Bx.below (unhide A1) hSw).cv; have y2 := (Bx.below (unhide A1) hSw).lt; have z1 := (Bx.below (unhide X1) hSw).cv; have z2 := (Bx.below (unhide X1) hSw).lt; go_simp; rfl
    try simp only [Act.put, List.getElem_toArray, List.getElem_cons_succ, List.getElem_cons_zero, List.setIfInBounds_toArray, List.set_cons_zero, List.set_cons_succ]
    refine wpAnyH_take (i := 10) (v := ?_) rfl (by kernel_rfl) (by kernel_rfl) (by kernel_rfl) (fun _ _ _ h => h) (Or.inl ⟨by rfl, ?_⟩) hHeld ?_
    rotate_left
    · intro V hSw; have y1 := (Bx.below (unhide A1) hSw).cv; have y2 := (Bx.below (unhide A1) hSw).lt; have z1 := (Bx.below (unhide X1) hSw).cv; have z2 := (Bx.below (unhide X1) hSw).lt; go_simp; rfl
    try simp only [Act.put, List.getElem_toArray, List.getElem_cons_succ, List.getElem_cons_zero, List.setIfInBounds_toArray, List.set_cons_zero, List.set_cons_succ]
    refine wpAnyH_take (i := 11) (v := ?_) rfl (by kernel_rfl) (by kernel_rfl) (by kernel_rfl) (fun _ _ _ h => h) (Or.inl ⟨by rfl, ?_⟩) hHeld ?_
    rotate_left
    · intro V hSw; have y1 := (Bx.below (unhide A1) hSw).cv; have y2 := (Bx.below (unhide A1) hSw).lt; have z1 := (Bx.below (unhide X1) hSw).cv; have z2 := (Bx.below (unhide X1) hSw).lt; go_simp; rfl
    try simp only [Act.put, List.getElem_toArray, List.getElem_cons_succ, List.getElem_cons_zero, List.setIfInBounds_toArray, List.set_cons_zero, List.set_cons_succ]
    refine wpAnyH_take (i := 12) (v := ?_) rfl (by kernel_rfl) (by kernel_rfl) (by kernel_rfl) (fun _ _ _ h => h) (Or.inl ⟨by rfl, ?_⟩) hHeld ?_
    rotate_left
    · intro V hSw; have y1 := (Bx.below (unhide A1) hSw).cv; have y2 := (Bx.below (unhide A1) hSw).lt; have z1 := (Bx.below (unhide X1) hSw).cv; have z2 := (Bx.below (unhide X1) hSw).lt; go_simp; rfl
    try simp only [Act.put, List.getElem_toArray, List.getElem_cons_succ, List.getElem_cons_zero, List.setIfInBounds_toArray, List.set_cons_zero, List.set_cons_succ]
    refine wpAnyH_take (i := 13) (v := ?_) rfl (by kernel_rfl) (by kernel_rfl) (by kernel_rfl) (fun _ _ _ h => h) (Or.inl ⟨by rfl, ?_⟩) hHeld ?_
    rotate_left
    · intro V hSw; have y1 := (Bx.below (unhide A1) hSw).cv; have y2 := (Bx.below (unhide A1) hSw).lt; have z1 := (Bx.below (unhide X1) hSw).cv; have z2 := (Bx.below (unhide X1) hSw).lt; go_simp; rfl
    try simp only [Act.put, List.getElem_toArray, List.getElem_cons_succ, List.getElem_cons_zero, List.setIfInBounds_toArray, List.set_cons_zero, List.set_cons_succ]
    refine wpAnyH_take (i := 14) (v := ?_) rfl (by kernel_rfl) (by kernel_rfl) (by kernel_rfl) (fun _ _ _ h => h) (Or.inl ⟨by rfl, ?_⟩) hHeld ?_
    rotate_left
    · intro V hSw; have y1 := (Bx.below (unhide A1) hSw).cv; have y2 := (Bx.below (unhide A1) hSw).lt; have z1 := (Bx.below (unhide X1) hSw).cv; have z2 := (Bx.below (unhide X1) hSw).lt; go_simp; rfl
    try simp only [Act.put, List.getElem_toArray, List.getElem_cons_succ, List.getElem_cons_zero, List.setIfInBounds_toArray, List.set_cons_zero, List.set_cons_succ]
    refine wpAnyH_take (i := 15) (v := ?_) rfl (by kernel_rfl) (by kernel_rfl) (by kernel_rfl) (fun _ _ _ h => h) (Or.inl ⟨by rfl, ?_⟩) hHeld ?_
    rotate_left
    · intro V hSw; have y1 := (Bx.below (unhide A1) hSw).cv; have y2 := (Bx.below (unhide A1) hSw).lt; have z1 := (Bx.below (unhide X1) hSw).cv; have z2 := (Bx.below (unhide X1) hSw).lt; go_simp; rfl
    try simp only [Act.put, List.getElem_toArray, List.getElem_cons_succ, List.getElem_cons_zero, List.setIfInBounds_toArray, List.set_cons_zero, List.set_cons_succ]
    refine wpAnyH_take (i := 16) (v := ?_) rfl (by kernel_rfl) (by kernel_rfl) (by kernel_rfl) (fun _ _ _ h => h) (Or.inl ⟨by rfl, ?_⟩) hHeld ?_
    rotate_left
    · intro V hSw; have y1 := (Bx.below (unhide A1) hSw).cv; have y2 := (Bx.below (unhide A1) hSw).lt; have z1 := (Bx.below (unhide X1) hSw).cv; have z2 := (Bx.below (unhide X1) hSw).lt; go_simp; rfl
    try simp only [Act.put, List.getElem_toArray, List.getElem_cons_succ, List.getElem_cons_zero, List.setIfInBounds_toArray, List.set_cons_zero, List.set_cons_succ]
    refine wpAnyH_take (i := 17) (v := ?_) rfl (by kernel_rfl) (by kernel_rfl) (by kernel_rfl) (fun _ _ _ h => h) (Or.inl ⟨by rfl, ?_⟩) hHeld ?_
    rotate_left
    · intro V hSw; have y1 := (Bx.below (unhide A1) hSw).cv; have y2 := (Bx.below (unhide A1) hSw).lt; have z1 := (Bx.below (unhide X1) hSw).cv; have z2 := (Bx.below (unhide X1) hSw).lt; go_simp; rfl
    try simp only [Act.put, List.getElem_toArray, List.getElem_cons_succ, List.getElem_cons_zero, List.setIfInBounds_toArray, List.set_cons_zero, List.set_cons_succ]
    refine wpAnyH_take (i := 18) (v := ?_) rfl (by kernel_rfl) (by kernel_rfl) (by kernel_rfl) (fun _ _ _ h => h) (Or.inl ⟨by rfl, ?_⟩) hHeld ?_
    rotate_left
    · intro V hSw; have y1 := (Bx.below (unhide A1) hSw).cv; have y2 := (Bx.below (unhide A1) hSw).lt; have z1 := (Bx.below (unhide X1) hSw).cv; have z2 := (Bx.below (unhide X1) hSw).lt; go_simp; rfl
    try simp only [Act.put, List.getElem_toArray, List.getElem_cons_succ, List.getElem_cons_zero, List.setIfInBounds_toArray, List.set_cons_zero, List.set_cons_succ]
    refine wpAnyH_take (i := 19) (v := ?_) rfl (by kernel_rfl) (by kernel_rfl) (by kernel_rfl) (fun _ _ _ h => h) (Or.inl ⟨by rfl, ?_⟩) hHeld ?_
    rotate_left
    · intro V hSw; have y1 := (Bx.below (unhide A1) hSw).cv; have y2 := (Bx.below (unhide A1) hSw).lt; have z1 := (Bx.below (unhide X1) hSw).cv; have z2 := (Bx.below (unhide X1) hSw).lt; go_simp; rfl
    try simp only [Act.put, List.getElem_toArray, List.getElem_cons_succ, List.getElem_cons_zero, List.setIfInBounds_toArray, List.set_cons_zero, List.set_cons_succ]
    refine wpAnyH_take (i := 20) (v := ?_) rfl (by kernel_rfl) (by kernel_rfl) (by kernel_rfl) (fun _ _ _ h => h) (Or.inl ⟨by rfl, ?_⟩) hHeld ?_
    rotate_left
    · intro V hSw; have y1 := (Bx.below (unhide A1) hSw).cv; have y2 := (Bx.below (unhide A1) hSw).lt; have z1 := (Bx.below (unhide X1) hSw).cv; have z2 := (Bx.below (unhide X1) hSw).lt; go_simp; rfl
    try simp only [Act.put, List.getElem_toArray, List.getElem_cons_succ, List.getElem_cons_zero, List.setIfInBounds_toArray, List.set_cons_zero, List.set_cons_succ]
    refine wpAnyH_take (i := 21) (v := ?_) rfl (by kernel_rfl) (by kernel_rfl) (by kernel_rfl) (fun _ _ _ h => h) (Or.inl ⟨by rfl, ?_⟩) hHeld ?_
    rotate_left
    · intro V hSw; have y1 := (Bx.below (unhide A1) hSw).cv; have y2 := (Bx.below (unhide A1) hSw).lt; have z1 := (Bx.below (unhide X1) hSw).cv; have z2 := (Bx.below (unhide X1) hSw).lt; go_simp; rfl
    try simp only [Act.put, List.getElem_toArray, List.getElem_cons_succ, List.getElem_cons_zero, List.setIfInBounds_toArray, List.set_cons_zero, List.set_cons_succ]
    refine wpAnyH_take (i := 22) (v := ?_) rfl (by kernel_rfl) (by kernel_rfl) (by kernel_rfl) (fun _ _ _ h => h) (Or.inl ⟨by rfl, ?_⟩) hHeld ?_
    rotate_left
    · intro V hSw; have y1 := (Bx.below (unhide A1) hSw).cv; have y2 := (Bx.below (unhide A1) hSw).lt; have z1 := (Bx.below (unhide X1) hSw).cv; have z2 := (Bx.below (unhide X1) hSw).lt; go_simp; rfl
    try simp only [Act.put, List.getElem_toArray, List.getElem_cons_succ, List.getElem_cons_zero, List.setIfInBounds_toArray, List.set_cons_zero, List.set_cons_succ]
    refine wpAnyH_take (i := 23) (v := ?_) rfl (by kernel_rfl) (by kernel_rfl) (by kernel_rfl) (fun _ _ _ h => h) (Or.inl ⟨by rfl, ?_⟩) hHeld ?_
    rotate_left
    · intro V hSw; have y1 := (Bx.below (unhide A1) hSw).cv; have y2 := (Bx.below (unhide A1) hSw).lt; have z1 := (Bx.below (unhide X1) hSw).cv; have z2 := (Bx.below (unhide X1) hSw).lt; go_simp; rfl
    try simp only [Act.put, List.getElem_toArray, List.getElem_cons_succ, List.getElem_cons_zero, List.setIfInBounds_toArray, List.set_cons_zero, List.set_cons_succ]
    refine wpAnyH_take (i := 24) (v := ?_) rfl (by kernel_rfl) (by kernel_rfl) (by kernel_rfl) (fun _ _ _ h => h) (Or.inl ⟨by rfl, ?_⟩) hHeld ?_
    rotate_left
    · intro V hSw; have y1 := (Bx.below (unhide A1) hSw).cv; have y2 := (Bx.below (unhide A1) hSw).lt; have z1 := (Bx.below (unhide X1) hSw).cv; have z2 := (Bx.below (unhide X1) hSw).lt; go_simp; rfl
    try simp only [Act.put, List.getElem_toArray, List.getElem_cons_succ, List.getElem_cons_zero, List.setIfInBounds_toArray, List.set_cons_zero, List.set_cons_succ]
    refine wpAnyH_take (i := 25) (v := ?_) rfl (by kernel_rfl) (by kernel_rfl) (by kernel_rfl) (fun _ _ _ h => h) (Or.inl ⟨by rfl, ?_⟩) hHeld ?_
    rotate_left
    · intro V hSw; have y1 := (Bx.below (unhide A1) hSw).cv; have y2 := (Bx.below (unhide A1) hSw).lt; have z1 := (Bx.below (unhide X1) hSw).cv; have z2 := (Bx.below (unhide X1) hSw).lt; go_simp; rfl
    try simp only [Act.put, List.getElem_toArray, List.getElem_cons_succ, List.getElem_cons_zero, List.setIfInBounds_toArray, List.set_cons_zero, List.set_cons_succ]
    refine wpAnyH_take (i := 26) (v := ?_) rfl (by kernel_rfl) (by kernel_rfl) (by kernel_rfl) (fun _ _ _ h => h) (Or.inl ⟨by rfl, ?_⟩) hHeld ?_
    rotate_left
    · intro V hSw; have y1 := (Bx.below (unhide A1) hSw).cv; have y2 := (Bx.below (unhide A1) hSw).lt; have z1 := (Bx.below (unhide X1) hSw).cv; have z2 := (Bx.below (unhide X1) hSw).lt; go_simp; rfl
    try simp only [Act.put, List.getElem_toArray, List.getElem_cons_succ, List.getElem_cons_zero, List.setIfInBounds_toArray, List.set_cons_zero, List.set_cons_succ]
    refine wpAnyH_take (i := 27) (v := ?_) rfl (by kernel_rfl) (by kernel_rfl) (by kernel_rfl) (fun _ _ _ h => h) (Or.inl ⟨by rfl, ?_⟩) hHeld ?_
    rotate_left
    · intro V hSw; go_simp; rfl
    try simp only [Act.put, List.getElem_toArray, List.getElem_cons_succ, List.getElem_cons_zero, List.setIfInBounds_toArray, List.set_cons_zero, List.set_cons_succ]
    refine wpAnyH_take (i := 28) (v := ?_) rfl (by kernel_rfl) (by kernel_rfl) (by kernel_rfl) (fun _ _ _ h => h) (Or.inl ⟨by rfl, ?_⟩) hHeld ?_
    rotate_left
    · intro V hSw; go_simp; rfl
    try simp only [Act.put, List.getElem_toArray, List.getElem_cons_succ, List.getElem_cons_zero, List.setIfInBounds_toArray, List.set_cons_zero, List.set_cons_succ]
    refine wpAnyH_done (by kernel_rfl) ?_ _
    refine NoPanic.normal ?_
    have B9 := hide ((unhide B1).trans (hHeld.mono (unhide B1).size))
    clear hHeld
    go_wp2_with fail
    go_ret
    exact ⟨by rw [unhide HE2, unhide hx, unhide hy, tl_eq]; rfl, unhide B9⟩
  · have HE2 : Hid (g = false) := by show _ = _; rw [unhide HE, decide_eq_false hlt]; rfl
    have t9 : decide (fr < to') = false := decide_eq_false hlt
    clear HE HX HY px py ly hf ht okx
    refine wp_region_noPanic ?_
    refine wp_region_held_drew (S := fun V => Below W2.heap.size W2 V) (by kernel_rfl) ((Below.refl _ _).drew) (fun hHeld => ?_)
    refine wpAnyH_take (i := 0) (v := ?_) rfl (by kernel_rfl) (by kernel_rfl) (by kernel_rfl) (fun _ _ _ h => h) (Or.inl ⟨by rfl, ?_⟩) hHeld ?_
    rotate_left
    · intro V hSw; have y1 := (Bx.below (unhide A1) hSw).cv; have y2 := (Bx.below (unhide A1) hSw).lt; have z1 := (Bx.below (unhide X1) hSw).cv; have z2 := (Bx.below (unhide X1) hSw).lt; go_simp; rfl
    try simp only [Act.put, List.getElem_toArray, List.getElem_cons_zero, List.setIfInBounds_toArray, List.set_cons_zero, List.set_cons_succ]
    refine wpAnyH_take (i := 1) (v := ?_) rfl (by kernel_rfl) (by kernel_rfl) (by kernel_rfl) (fun _ _ _ h => h) (Or.inl ⟨by rfl, ?_⟩) hHeld ?_
    rotate_left
    · intro V hSw; have y1 := (Bx.below (unhide A1) hSw).cv; have y2 := (Bx.below (unhide A1) hSw).lt; have z1 := (Bx.below (unhide X1) hSw).cv; have z2 := (Bx.below (unhide X1) hSw).lt; go_simp; rfl
    try simp only [Act.put, List.getElem_toArray, List.getElem_cons_succ, List.getElem_cons_zero, List.setIfInBounds_toArray, List.set_cons_zero, List.set_cons_succ]
    refine wpAnyH_take (i := 2) (v := ?_) rfl (by kernel_rfl) (by kernel_rfl) (by kernel_rfl) (fun _ _ _ h => h) (Or.inl ⟨by rfl, ?_⟩) hHeld ?_
    rotate_left
    · intro V hSw; have y1 := (Bx.below (unhide A1) hSw).cv; have y2 := (Bx.below (unhide A1) hSw).lt; have z1 := (Bx.below (unhide X1) hSw).cv; have z2 := (Bx.below (unhide X1) hSw).lt; go_simp; rfl
    try simp only [Act.put, List.getElem_toArray, List.getElem_cons_succ, List.getElem_cons_zero, List.setIfInBounds_toArray, List.set_cons_zero, List.set_cons_succ]
    refine wpAnyH_take (i := 3) (v := ?_) rfl (by kernel_rfl) (by kernel_rfl) (by kernel_rfl) (fun _ _ _ h => h) (Or.inl ⟨by rfl, ?_⟩) hHeld ?_
    rotate_left
    · intro V hSw; have y1 := (Bx.below (unhide A1) hSw).cv; have y2 := (Bx.below (unhide A1) hSw).lt; have z1 := (Bx.below (unhide X1) hSw).cv; have z2 := (Bx.below (unhide X1) hSw).lt; go_simp; rfl
    try simp only [Act.put, List.getElem_toArray, List.getElem_cons_succ, List.getElem_cons_zero, List.setIfInBounds_toArray, List.set_cons_zero, List.set_cons_succ]
    refine wpAnyH_take (i := 4) (v := undef) rfl (by kernel_rfl) (by kernel_rfl) (by kernel_rfl) (fun _ _ _ h => h) (Or.inr ⟨by rfl, rfl⟩) hHeld ?_
    try simp only [Act.put, List.getElem_toArray, List.getElem_cons_succ, List.getElem_cons_zero, List.setIfInBounds_toArray, List.set_cons_zero, List.set_cons_succ]
    refine wpAnyH_take (i := 5) (v := undef) rfl (by kernel_rfl) (by kernel_rfl) (by kernel_rfl) (fun _ _ _ h => h) (Or.inr ⟨by rfl, rfl⟩) hHeld ?_
    try simp only [Act.put, List.getElem_toArray, List.getElem_cons_succ, List.getElem_cons_zero, List.setIfInBounds_toArray, List.set_cons_zero, List.set_cons_succ]
    refine wpAnyH_take (i := 6) (v := undef) rfl (by kernel_rfl) (by kernel_rfl) (by kernel_rfl) (fun _ _ _ h => h) (Or.inr ⟨by rfl, rfl⟩) hHeld ?_
    try simp only [Act.put, List.getElem_toArray, List.getElem_cons_succ, List.getElem_cons_zero, List.setIfInBounds_toArray, List.set_cons_zero, List.set_cons_succ]
    refine wpAnyH_take (i := 7) (v := undef) rfl (by kernel_rfl) (by kernel_rfl) (by kernel_rfl) (fun _ _ _ h => h) (Or.inr ⟨by rfl, rfl⟩) hHeld ?_
    try simp only [Act.put, List.getElem_toArray, List.getElem_cons_succ, List.getElem_cons_zero, List.setIfInBounds_toArray, List.set_cons_zero, List.set_cons_succ]
    refine wpAnyH_take (i := 8) (v := undef) rfl (by kernel_rfl) (by kernel_rfl) (by kernel_rfl) (fun _ _ _ h => h) (Or.inr ⟨by rfl, rfl⟩) hHeld ?_
    try simp only [Act.put, List.getElem_toArray, List.getElem_cons_succ, List.getElem_cons_zero, List.setIfInBounds_toArray, List.set_cons_zero, List.set_cons_succ]
    refine wpAnyH_take (i := 9) (v := undef) rfl (by kernel_rfl) (by kernel_rfl) (by kernel_rfl) (fun _ _ _ h => h) (Or.inr ⟨by rfl, rfl⟩) hHeld ?_
    try simp only [Act.put, List.getElem_toArray, List.getElem_cons_succ, List.getElem_cons_zero, List.setIfInBounds_toArray, List.set_cons_zero, List.set_cons_succ]
    refine wpAnyH_take (i := 10) (v := undef) rfl (by kernel_rfl) (by kernel_rfl) (by kernel_rfl) (fun _ _ _ h => h) (Or.inr ⟨by rfl, rfl⟩) hHeld ?_
    try simp only [Act.put, List.getElem_toArray, List.getElem_cons_succ, List.getElem_cons_zero, List.setIfInBounds_toArray, List.set_cons_zero, List.set_cons_succ]
    refine wpAnyH_take (i := 11) (v := undef) rfl (by kernel_rfl) (by kernel_rfl) (by kernel_rfl) (fun _ _ _ h => h) (Or.inr ⟨by rfl, rfl⟩) hHeld ?_
    try simp only [Act.put, List.getElem_toArray, List.getElem_cons_succ, List.getElem_cons_zero, List.setIfInBounds_toArray, List.set_cons_zero, List.set_cons_succ]
    refine wpAnyH_take (i := 12) (v := undef) rfl (by kernel_rfl) (by kernel_rfl) (by kernel_rfl) (fun _ _ _ h => h) (Or.inr ⟨by rfl, rfl⟩) hHeld ?_
    try simp only [Act.put, List.getElem_toArray, List.getElem_cons_succ, List.getElem_cons_zero, List.setIfInBounds_toArray, List.set_cons_zero, List.set_cons_succ]
    refine wpAnyH_take (i := 13) (v := undef) rfl (by kernel_rfl) (by kernel_rfl) (by kernel_rfl) (fun _ _ _ h => h) (Or.inr ⟨by rfl, rfl⟩) hHeld ?_
    try simp only [Act.put, List.getElem_toArray, List.getElem_cons_succ, List.getElem_cons_zero, List.setIfInBounds_toArray, List.set_cons_zero, List.set_cons_succ]
    refine wpAnyH_take (i := 14) (v := undef) rfl (by kernel_rfl) (by kernel_rfl) (by kernel_rfl) (fun _ _ _ h => h) (Or.inr ⟨by rfl, rfl⟩) hHeld ?_
    try simp only [Act.put, List.getElem_toArray, List.getElem_cons_succ, List.getElem_cons_zero, List.setIfInBounds_toArray, List.set_cons_zero, List.set_cons_succ]
    refine wpAnyH_take (i := 15) (v := undef) rfl (by kernel_rfl) (by kernel_rfl) (by kernel_rfl) (fun _ _ _ h => h) (Or.inr ⟨by rfl, rfl⟩) hHeld ?_
    try simp only [Act.put, List.getElem_toArray, List.getElem_cons_succ, List.getElem_cons_zero, List.setIfInBounds_toArray, List.set_cons_zero, List.set_cons_succ]
    refine wpAnyH_take (i := 16) (v := undef) rfl (by kernel_rfl) (by kernel_rfl) (by kernel_rfl) (fun _ _ _ h => h) (Or.inr ⟨by rfl, rfl⟩) hHeld ?_
    try simp only [Act.put, List.getElem_toArray, List.getElem_cons_succ, List.getElem_cons_zero, List.setIfInBounds_toArray, List.set_cons_zero, List.set_cons_succ]
    refine wpAnyH_take (i := 17) (v := undef) rfl (by kernel_rfl) (by kernel_rfl) (by kernel_rfl) (fun _ _ _ h => h) (Or.inr ⟨by rfl, rfl⟩) hHeld ?_
    try simp only [Act.put, List.getElem_toArray, List.getElem_cons_succ, List.getElem_cons_zero, List.setIfInBounds_toArray, List.set_cons_zero, List.set_cons_succ]
    refine wpAnyH_take (i := 18) (v := undef) rfl (by kernel_rfl) (by kernel_rfl) (by kernel_rfl) (fun _ _ _ h => h) (Or.inr ⟨by rfl, rfl⟩) hHeld ?_
    try simp only [Act.put, List.getElem_toArray, List.getElem_cons_succ, List.getElem_cons_zero, List.setIfInBounds_toArray, List.set_cons_zero, List.set_cons_succ]
    refine wpAnyH_take (i := 19) (v := undef) rfl (by kernel_rfl) (by kernel_rfl) (by kernel_rfl) (fun _ _ _ h => h) (Or.inr ⟨by rfl, rfl⟩) hHeld ?_
    try simp only [Act.put, List.getElem_toArray, List.getElem_cons_succ, List.getElem_cons_zero, List.setIfInBounds_toArray, List.set_cons_zero, List.set_cons_succ]
    refine wpAnyH_take (i := 20) (v := undef) rfl (by kernel_rfl) (by kernel_rfl) (by kernel_rfl) (fun _ _ _ h => h) (Or.inr ⟨by rfl, rfl⟩) hHeld ?_
    try simp only [Act.put, List.getElem_toArray, List.getElem_cons_succ, List.getElem_cons_zero, List.setIfInBounds_toArray, List.set_cons_zero, List.set_cons_succ]
    refine wpAnyH_take (i := 21) (v := undef) rfl (by kernel_rfl) (by kernel_rfl) (by kernel_rfl) (fun _ _ _ h => h) (Or.inr ⟨by rfl, rfl⟩) hHeld ?_
    try simp only [Act.put, List.getElem_toArray, List.getElem_cons_succ, List.getElem_cons_zero, List.setIfInBounds_toArray, List.set_cons_zero, List.set_cons_succ]
    refine wpAnyH_take (i := 22) (v := undef) rfl (by kernel_rfl) (by kernel_rfl) (by kernel_rfl) (fun _ _ _ h => h) (Or.inr ⟨by rfl, rfl⟩) hHeld ?_
    try simp only [Act.put, List.getElem_toArray, List.getElem_cons_succ, List.getElem_cons_zero, List.setIfInBounds_toArray, List.set_cons_zero, List.set_cons_succ]
    refine wpAnyH_take (i := 23) (v := undef) rfl (by kernel_rfl) (by kernel_rfl) (by kernel_rfl) (fun _ _ _ h => h) (Or.inr ⟨by rfl, rfl⟩) hHeld ?_
    try simp only [Act.put, List.getElem_toArray, List.getElem_cons_succ, List.getElem_cons_zero, List.setIfInBounds_toArray, List.set_cons_zero, List.set_cons_succ]
    refine wpAnyH_take (i := 24) (v := undef) rfl (by kernel_rfl) (by kernel_rfl) (by kernel_rfl) (fun _ _ _ h => h) (Or.inr ⟨by rfl, rfl⟩) hHeld ?_
    try simp only [Act.put, List.getElem_toArray, List.getElem_cons_succ, List.getElem_cons_zero, List.setIfInBounds_toArray, List.set_cons_zero, List.set_cons_succ]
    refine wpAnyH_take (i := 25) (v := undef) rfl (by kernel_rfl) (by kernel_rfl) (by kernel_rfl) (fun _ _ _ h => h) (Or.inr ⟨by rfl, rfl⟩) hHeld ?_
    try simp only [Act.put, List.getElem_toArray, List.getElem_cons_succ, List.getElem_cons_zero, List.setIfInBounds_toArray, List.set_cons_zero, List.set_cons_succ]
    refine wpAnyH_take (i := 26) (v := undef) rfl (by kernel_rfl) (by kernel_rfl) (by kernel_rfl) (fun _ _ _ h => h) (Or.inr ⟨by rfl, rfl⟩) hHeld ?_
    try simp only [Act.put, List.getElem_toArray, List.getElem_cons_succ, List.getElem_cons_zero, List.setIfInBounds_toArray, List.set_cons_zero, List.set_cons_succ]
    refine wpAnyH_take (i := 27) (v := ?_) rfl (by kernel_rfl) (by kernel_rfl) (by kernel_rfl) (fun _ _ _ h => h) (Or.inl ⟨by rfl, ?_⟩) hHeld ?_
    rotate_left
    · intro V hSw; go_simp; rfl
    try simp only [Act.put, List.getElem_toArray, List.getElem_cons_succ, List.getElem_cons_zero, List.setIfInBounds_toArray, List.set_cons_zero, List.set_cons_succ]
    refine wpAnyH_take (i := 28) (v := ?_) rfl (by kernel_rfl) (by kernel_rfl) (by kernel_rfl) (fun _ _ _ h => h) (Or.inl ⟨by rfl, ?_⟩) hHeld ?_
    rotate_left
    · intro V hSw; go_simp; rfl
    try simp only [Act.put, List.getElem_toArray, List.getElem_cons_succ, List.getElem_cons_zero, List.setIfInBounds_toArray, List.set_cons_zero, List.set_cons_succ]
    refine wpAnyH_done (by kernel_rfl) ?_ _
    refine NoPanic.normal ?_
    have B9 := hide ((unhide B1).trans (hHeld.mono (unhide B1).size))
    clear hHeld
    go_wp2_with fail
    go_ret
    exact ⟨(congrArg (fun b => Ending.returned (Value.bool b)) (unhide HE2)).symm, unhide B9⟩
theorem any_drop {x : PieceD} {P : List PieceD} {k : Nat} (h : k < P.length) : (P.drop k).any (cloB x) = (cloB x (gt pieceK P k) || (P.drop (k + 1)).any (cloB x)) := by rw [dropP h]; rfl
set_option maxHeartbeats 4000000 in
theorem implIx (x : PieceD) (pb : Nat) (P : List PieceD) (a : Option Addr) (c : Nat) (W : World) (hn : P.length ≤ 1000) (lx : okP [x]) (ly : ∀ p ∈ P, lowP p) (hx : Bx W pb (pieceC x)) (h : Rd pieceK W a P) :
    Calls Try.prog 53 #[.slice a P.length c, .func (.func 50) #[] #[.pointer (some ⟨pb, 0, none⟩)]] W fun e w' => (∃ r : Int, e = .returned (.int .i64 r) ∧ decide (0 ≤ r) = P.any (cloB x)) ∧ Below W.heap.size W w' := by
  have HR := hide (fun V (b : Below W.heap.size W V) => h.below b)
  have HC := hide (fun y (l : lowP y) V (b : Below W.heap.size W V) => implCl x y pb V lx l (hx.below b))
  have LY := hide ly
  have G0 : Hid (P.any (cloB x) = (P.drop 0).any (cloB x)) := rfl
  obtain ⟨g, hg⟩ : ∃ g, P.any (cloB x) = g := ⟨_, rfl⟩
  rw [hg] at G0 ⊢
  clear h ly lx hx hg
  go_enter Try.func53, Try.ntmps53
  go_wp2_with fail
  go_loopw [5, 8] (fun _ iv wr => ∃ k : Nat, k ≤ P.length ∧ iv = .int .i64 k ∧ Hid (g = (P.drop k).any (cloB x)) ∧ Hid (Below W.heap.size W wr)) (fun _ iv _ => P.length - (intOf iv).toNat)
  case atStart => exact ⟨0, Nat.zero_le _, rfl, G0, Below.refl _ _⟩
  case round =>
    obtain ⟨k, hk, rfl, hg, hB⟩ := hrel
    clear G0
    by_cases hlt : k < P.length
    · rcases unhide HR wr (unhide hB) with h9 | ⟨b, o, rfl, _, hel⟩
      · rw [h9] at hlt; exact absurd hlt (Nat.not_lt_zero _)
      have c0 := piece_r0 hel hlt
      have c1 := piece_r1 hel hlt
      have hl := unhide LY _ (gt_mem pieceK P k hlt)
      have HD : Hid (g = (cloB x (gt pieceK P k) || (P.drop (k + 1)).any (cloB x))) := by show _ = _; rw [unhide hg]; exact any_drop hlt
      generalize gt pieceK P k = y at *
      have HQ := hide (unhide HC y hl wr (unhide hB))
      have hnk : (k : Int) < (P.length : Int) := by omega
      have hk0' : (0 : Int) ≤ (k : Int) := by omega
      generalize cloB x y = r at *
      clear hel hg hl
      go_wp2_with fail
      refine (unhide HQ).mono ?_
      rintro e w2 ⟨rfl, b2⟩
      have B2 := hide ((unhide hB).trans (b2.mono (unhide hB).size))
      clear b2
      cases r with
      | true =>
        have hg' : Hid (decide ((0 : Int) ≤ (k : Int)) = g) := by show _ = _; rw [unhide HD, decide_eq_true hk0']; rfl
        clear HD
        go_wp2
        go_ret
        exact ⟨⟨_, rfl, unhide hg'⟩, unhide B2⟩
      | false =>
        have hg' : Hid (g = (P.drop (k + 1)).any (cloB x)) := by show _ = _; rw [unhide HD]; rfl
        clear HD
        go_wp2
        exact ⟨⟨k + 1, by omega, by go_num, hg', B2⟩, by simp [intOf]; omega⟩
    · obtain rfl : k = P.length := by omega
      have hg' : Hid (decide ((0 : Int) ≤ -1) = g) := by show _ = _; rw [unhide hg, List.drop_length]; rfl
      clear hg
      go_wp2
      go_ret
      exact ⟨⟨_, rfl, unhide hg'⟩, unhide hB⟩
set_option maxHeartbeats 4000000 in
theorem implCB (x : PieceD) (P : List PieceD) (a : Option Addr) (c : Nat) (W : World) (hn : P.length ≤ 1000) (lx : okP [x]) (ly : ∀ p ∈ P, lowP p) (h : Rd pieceK W a P) :
    Calls Try.prog 44 #[.slice a P.length c, pieceV x] W fun e w' => e = .returned (.bool (clB P x.f0 x.f1)) ∧ Below W.heap.size W w' := by
  obtain ⟨V0, hV0⟩ : ∃ V, V = W.alloc (.cells (pieceC x).toArray 53) := ⟨_, rfl⟩
  have B0 := hide (show Below W.heap.size W V0 by rw [hV0]; exact (Below.refl W.heap.size W).alloc (Nat.le_refl _) _)
  have HX := hide (implIx x W.heap.size P a c V0 hn lx ly (by rw [hV0]; exact Bx.new W _ _) (h.below (unhide B0)))
  have HE : Hid (P.any (cloB x) = clB P x.f0 x.f1) := by
    show _ = _
    unfold clB
    congr 1
    funext y
    exact clo_is x y
  have HV0 := hide hV0
  rw [← unhide HE]
  generalize P.any (cloB x) = g at *
  clear hV0 h ly lx HE
  have HC : Calls Try.prog 49 #[.slice a P.length c, .func (.func 50) #[] #[.pointer (some ⟨W.heap.size, 0, none⟩)]] V0 fun e w' => e = .returned (.bool g) ∧ Below V0.heap.size V0 w' := by
    go_enter Try.func49, Try.ntmps49
    go_wp2_with fail
    refine (unhide HX).mono ?_
    rintro e w1 ⟨⟨r, rfl, hr⟩, b1⟩
    have HR := hide hr
    have B1 := hide b1
    clear hr b1
    go_wp2
    go_ret
    exact ⟨by rw [unhide HR]; rfl, unhide B1⟩
  have HCC := hide HC
  clear HC HX
  go_enter Try.func44, Try.ntmps44
  go_upto_region 1 with fail
  rw [← unhide HV0]
  clear HV0
  go_wp2_with fail
  refine (unhide HCC).mono ?_
  rintro e w1 ⟨rfl, b1⟩
  have B1 := hide ((unhide B0).trans (b1.mono (unhide B0).size))
  clear b1
  go_wp2
  go_ret
  exact ⟨rfl, unhide B1⟩
end Go.Proofs.Ytmicpknilhiliaa.Rc
