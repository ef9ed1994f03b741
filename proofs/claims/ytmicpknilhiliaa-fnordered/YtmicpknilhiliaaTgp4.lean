/-
  Contract of the program: the desk takes a piece.
-/
import Derived.Test.YtmicpknilhiliaaTgo4
namespace Go.Proofs.Ytmicpknilhiliaa.Rc
open Go.ChangeShapes Go.WideShapes Go.ChangeAt Go.RowKit Go.Deep Go.Conc
set_option linter.unusedVariables false
set_option maxRecDepth 100000

theorem Ro.sl {e : TypeId} {base : Nat} {w : World} {a : Option Addr} {c : Nat} {L : List PieceD} (h : Ro pieceK e base w (.slice a L.length c) L) : Sl4 a c L.length ∧ c ≤ maxLen ∧ Rd pieceK w a L := by
  have h2 := h.2
  obtain ⟨a', c', e', _, ri⟩ := h.form
  injection e' with e1 _ e3
  subst e1
  rcases h2 with ⟨e0, n0⟩ | ⟨g, cap, cur, e0, hb, hg, hnc, hcm, _⟩
  · injection e0 with q1 q2 q3
    subst q1
    subst q3
    exact ⟨Or.inr ⟨rfl, rfl, n0⟩, Nat.zero_le _, Or.inl (List.length_eq_zero_iff.1 n0)⟩
  · injection e0 with q1 q2 q3
    subst q1
    subst q3
    exact ⟨Or.inl ⟨g, 0, rfl, hnc⟩, hcm, ri.rd⟩
/-- what the desk holds behind a piece that comes -/
def dtE (D : InflowD) (at' : Int) (d : ByteArray) (fin : Bool) : InflowD := if tkC D at' d fin = 0 then tkD D at' d fin 0 else D
set_option maxHeartbeats 8000000 in
theorem implDT (D : InflowD) (a : Option Addr) (c x y q : Nat) (rd : Value) (at' : Int) (d : ByteArray) (fin : Bool) (W : World) (ok : okF D) (hd : d.size ≤ 1099511627776) (hX : Bx W q (deskC D a c x y rd)) (hO : Ro pieceK 53 (q + 1) W (.slice a D.P.length c) D.P) :
    Calls Try.prog 24 #[.pointer (some ⟨q, 0, none⟩), .agg #[.int .i64 at', .string d, .bool fin]] W fun e w' => e = .returned (.tuple #[]) ∧ ∃ (a' : Option Addr) (c' : Nat), Bx w' q (deskC (dtE D at' d fin) a' c' x y rd) ∧ Ro pieceK 53 (q + 1) w' (.slice a' (dtE D at' d fin).P.length c') (dtE D at' d fin).P ∧ Kq (fun b => b = q) W w' := by
  obtain ⟨sl, cm, rdP⟩ := hO.sl
  obtain ⟨V0, hV0⟩ : ∃ V, V = W.alloc (.cells #[.int .i64 at', .string d, .bool fin] 55) := ⟨_, rfl⟩
  have HV0 := hide hV0
  obtain ⟨U, hU⟩ : ∃ U, U = V0.drew := ⟨_, rfl⟩
  have HU := hide hU
  have BU : Below W.heap.size W U := by rw [hU, hV0]; exact ((Below.refl W.heap.size W).alloc (Nat.le_refl _) _).drew
  have C0 := hide (show Bx U W.heap.size [.int .i64 at', .string d, .bool fin] by rw [hU, hV0]; exact (Bx.new W _ _).drew)
  have A0 := hide (hX.below BU)
  have O0 := hide (hO.below BU)
  have KU := hide (Kq.of (P := fun b => b = q) BU)
  have sq := hX.lt
  have sU := BU.size
  have HTP := hide (fun V (b : Below U.heap.size U V) => implTP D a c at' d fin V ok hd sl cm (rdP.below (BU.trans (b.mono sU))))
  have HE : Hid (dtE D at' d fin = if tkC D at' d fin = 0 then tkD D at' d fin 0 else D) := rfl
  have okE : Hid True := trivial
  generalize dtE D at' d fin = E at *
  obtain ⟨co, hco⟩ : ∃ t, t = tkC D at' d fin := ⟨_, rfl⟩
  have HD0 : Hid (co = 0 → tkD D at' d fin co = tkD D at' d fin 0) := fun h => by rw [h]
  rw [← hco] at HE HTP
  clear hco
  generalize tkD D at' d fin co = F at *
  generalize tkD D at' d fin 0 = F0 at *
  clear hV0 hU BU hX hO sl cm rdP ok
  obtain ⟨li, re, fi, P⟩ := D
  go_enter Try.func24, Try.ntmps24
  go_upto_region 1 with fail
  rw [← unhide HV0]
  clear HV0
  refine wp_region_noPanic ?_
  refine wp_region_held_drew (S := fun V => Below U.heap.size U V) (by kernel_rfl) (by rw [← unhide HU]; exact Below.refl _ _) (fun hHeld => ?_)
  rw [← unhide HU] at hHeld ⊢
  refine wpAnyH_take (i := 0) (v := ?_) rfl (by kernel_rfl) (by kernel_rfl) (by kernel_rfl) (fun _ _ _ h => h) (Or.inl ⟨by rfl, ?_⟩) hHeld ?_
  rotate_left
  · intro V hSw; have y0 := (Bx.below (unhide A0) hSw).cv; have y0l := (Bx.below (unhide A0) hSw).lt; have y1 := (Bx.below (unhide C0) hSw).cv; have y1l := (Bx.below (unhide C0) hSw).lt; go_simp; rfl
  try simp only [Act.put, List.getElem_toArray, List.getElem_cons_zero, List.setIfInBounds_toArray, List.set_cons_zero, List.set_cons_succ]
  refine wpAnyH_take (i := 1) (v := ?_) rfl (by kernel_rfl) (by kernel_rfl) (by kernel_rfl) (fun _ _ _ h => h) (Or.inl ⟨by rfl, ?_⟩) hHeld ?_
  rotate_left
  · intro V hSw; have y0 := (Bx.below (unhide A0) hSw).cv; have y0l := (Bx.below (unhide A0) hSw).lt; have y1 := (Bx.below (unhide C0) hSw).cv; have y1l := (Bx.below (unhide C0) hSw).lt; go_simp; rfl
  try simp only [Act.put, List.getElem_toArray, List.getElem_cons_succ, List.getElem_cons_zero, List.setIfInBounds_toArray, List.set_cons_zero, List.set_cons_succ]
  refine wpAnyH_take (i := 2) (v := ?_) rfl (by kernel_rfl) (by kernel_rfl) (by kernel_rfl) (fun _ _ _ h => h) (Or.inl ⟨by rfl, ?_⟩) hHeld ?_
  rotate_left
  · intro V hSw; have y0 := (Bx.below (unhide A0) hSw).cv; have y0l := (Bx.below (unhide A0) hSw).lt; have y1 := (Bx.below (unhide C0) hSw).cv; have y1l := (Bx.below (unhide C0) hSw).lt; go_simp; rfl
  try simp only [Act.put, List.getElem_toArray, List.getElem_cons_succ, List.getElem_cons_zero, List.setIfInBounds_toArray, List.set_cons_zero, List.set_cons_succ]
  refine wpAnyH_take (i := 3) (v := ?_) rfl (by kernel_rfl) (by kernel_rfl) (by kernel_rfl) (fun _ _ _ h => h) (Or.inl ⟨by rfl, ?_⟩) hHeld ?_
  rotate_left
  · intro V hSw; have y0 := (Bx.below (unhide A0) hSw).cv; have y0l := (Bx.below (unhide A0) hSw).lt; have y1 := (Bx.below (unhide C0) hSw).cv; have y1l := (Bx.below (unhide C0) hSw).lt; go_simp; rfl
  try simp only [Act.put, List.getElem_toArray, List.getElem_cons_succ, List.getElem_cons_zero, List.setIfInBounds_toArray, List.set_cons_zero, List.set_cons_succ]
  refine wpAnyH_take (i := 4) (v := ?_) rfl (by kernel_rfl) (by kernel_rfl) (by kernel_rfl) (fun _ _ _ h => h) (Or.inl ⟨by rfl, ?_⟩) hHeld ?_
  rotate_left
  · intro V hSw; have y0 := (Bx.below (unhide A0) hSw).cv; have y0l := (Bx.below (unhide A0) hSw).lt; have y1 := (Bx.below (unhide C0) hSw).cv; have y1l := (Bx.below (unhide C0) hSw).lt; go_simp; rfl
  try simp only [Act.put, List.getElem_toArray, List.getElem_cons_succ, List.getElem_cons_zero, List.setIfInBounds_toArray, List.set_cons_zero, List.set_cons_succ]
  refine wpAnyH_take (i := 5) (v := ?_) rfl (by kernel_rfl) (by kernel_rfl) (by kernel_rfl) (fun _ _ _ h => h) (Or.inl ⟨by rfl, ?_⟩) hHeld ?_
  rotate_left
  · intro V hSw; have y0 := (Bx.below (unhide A0) hSw).cv; have y0l := (Bx.below (unhide A0) hSw).lt; have y1 := (Bx.below (unhide C0) hSw).cv; have y1l := (Bx.below (unhide C0) hSw).lt; go_simp; rfl
  try simp only [Act.put, List.getElem_toArray, List.getElem_cons_succ, List.getElem_cons_zero, List.setIfInBounds_toArray, List.set_cons_zero, List.set_cons_succ]
  refine wpAnyH_take (i := 6) (v := ?_) rfl (by kernel_rfl) (by kernel_rfl) (by kernel_rfl) (fun _ _ _ h => h) (Or.inl ⟨by rfl, ?_⟩) hHeld ?_
  rotate_left
  · intro V hSw; have y0 := (Bx.below (unhide A0) hSw).cv; have y0l := (Bx.below (unhide A0) hSw).lt; have y1 := (Bx.below (unhide C0) hSw).cv; have y1l := (Bx.below (unhide C0) hSw).lt; go_simp; rfl
  try simp only [Act.put, List.getElem_toArray, List.getElem_cons_succ, List.getElem_cons_zero, List.setIfInBounds_toArray, List.set_cons_zero, List.set_cons_succ]
  refine wpAnyH_take (i := 7) (v := ?_) rfl (by kernel_rfl) (by kernel_rfl) (by kernel_rfl) (fun _ _ _ h => h) (Or.inl ⟨by rfl, ?_⟩) hHeld ?_
  rotate_left
  · intro V hSw; have y0 := (Bx.below (unhide A0) hSw).cv; have y0l := (Bx.below (unhide A0) hSw).lt; have y1 := (Bx.below (unhide C0) hSw).cv; have y1l := (Bx.below (unhide C0) hSw).lt; go_simp; rfl
  try simp only [Act.put, List.getElem_toArray, List.getElem_cons_succ, List.getElem_cons_zero, List.setIfInBounds_toArray, List.set_cons_zero, List.set_cons_succ]
  refine wpAnyH_take (i := 8) (v := ?_) rfl (by kernel_rfl) (by kernel_rfl) (by kernel_rfl) (fun _ _ _ h => h) (Or.inl ⟨by rfl, ?_⟩) hHeld ?_
  rotate_left
  · intro V hSw; have y0 := (Bx.below (unhide A0) hSw).cv; have y0l := (Bx.below (unhide A0) hSw).lt; have y1 := (Bx.below (unhide C0) hSw).cv; have y1l := (Bx.below (unhide C0) hSw).lt; go_simp; rfl
  try simp only [Act.put, List.getElem_toArray, List.getElem_cons_succ, List.getElem_cons_zero, List.setIfInBounds_toArray, List.set_cons_zero, List.set_cons_succ]
  refine wpAnyH_take (i := 9) (v := ?_) rfl (by kernel_rfl) (by kernel_rfl) (by kernel_rfl) (fun _ _ _ h => h) (Or.inl ⟨by rfl, ?_⟩) hHeld ?_
  rotate_left
  · intro V hSw; have y0 := (Bx.below (unhide A0) hSw).cv; have y0l := (Bx.below (unhide A0) hSw).lt; have y1 := (Bx.below (unhide C0) hSw).cv; have y1l := (Bx.below (unhide C0) hSw).lt; go_simp; rfl
  try simp only [Act.put, List.getElem_toArray, List.getElem_cons_succ, List.getElem_cons_zero, List.setIfInBounds_toArray, List.set_cons_zero, List.set_cons_succ]
  refine wpAnyH_take (i := 10) (v := ?_) rfl (by kernel_rfl) (by kernel_rfl) (by kernel_rfl) (fun _ _ _ h => h) (Or.inl ⟨by rfl, ?_⟩) hHeld ?_
  rotate_left
  · intro V hSw; have y0 := (Bx.below (unhide A0) hSw).cv; have y0l := (Bx.below (unhide A0) hSw).lt; have y1 := (Bx.below (unhide C0) hSw).cv; have y1l := (Bx.below (unhide C0) hSw).lt; go_simp; rfl
  try simp only [Act.put, List.getElem_toArray, List.getElem_cons_succ, List.getElem_cons_zero, List.setIfInBounds_toArray, List.set_cons_zero, List.set_cons_succ]
  refine wpAnyH_take (i := 11) (v := ?_) rfl (by kernel_rfl) (by kernel_rfl) (by kernel_rfl) (fun _ _ _ h => h) (Or.inl ⟨by rfl, ?_⟩) hHeld ?_
  rotate_left
  · intro V hSw; have y0 := (Bx.below (unhide A0) hSw).cv; have y0l := (Bx.below (unhide A0) hSw).lt; have y1 := (Bx.below (unhide C0) hSw).cv; have y1l := (Bx.below (unhide C0) hSw).lt; go_simp; rfl
  try simp only [Act.put, List.getElem_toArray, List.getElem_cons_succ, List.getElem_cons_zero, List.setIfInBounds_toArray, List.set_cons_zero, List.set_cons_succ]
  refine wpAnyH_ready (rs := [12, 16]) (by kernel_rfl) (by simp) ?_
  refine (AllReadyH.cons rfl (fun K hK => ?_) (AllReadyH.cons rfl (fun K hK => ?_) AllReadyH.nil))
  · go_simp
    go_at_call 33
    refine (unhide HTP U hHeld).mono ?_
    rintro e w1 ⟨a1, c1, rfl, o1, b1⟩
    refine hK.out _ _ b1 (fun hHeld1 => ?_)
    clear hK K
    try simp only [Act.put, List.getElem_toArray, List.getElem_cons_succ, List.getElem_cons_zero, List.setIfInBounds_toArray, List.set_cons_zero, List.set_cons_succ]
    refine wpAnyH_take (i := 13) (v := ?_) rfl (by kernel_rfl) (by kernel_rfl) (by kernel_rfl) (fun _ _ _ h => h) (Or.inl ⟨by rfl, ?_⟩) hHeld1 ?_
    rotate_left
    · intro V hSw; go_simp; rfl
    try simp only [Act.put, List.getElem_toArray, List.getElem_cons_succ, List.getElem_cons_zero, List.setIfInBounds_toArray, List.set_cons_zero, List.set_cons_succ]
    refine wpAnyH_take (i := 14) (v := ?_) rfl (by kernel_rfl) (by kernel_rfl) (by kernel_rfl) (fun _ _ _ h => h) (Or.inl ⟨by rfl, ?_⟩) hHeld1 ?_
    rotate_left
    · intro V hSw; go_simp; rfl
    try simp only [Act.put, List.getElem_toArray, List.getElem_cons_succ, List.getElem_cons_zero, List.setIfInBounds_toArray, List.set_cons_zero, List.set_cons_succ]
    refine wpAnyH_take (i := 15) (v := ?_) rfl (by kernel_rfl) (by kernel_rfl) (by kernel_rfl) (fun _ _ _ h => h) (Or.inl ⟨by rfl, ?_⟩) hHeld1 ?_
    rotate_left
    · intro V hSw; go_simp; rfl
    try simp only [Act.put, List.getElem_toArray, List.getElem_cons_succ, List.getElem_cons_zero, List.setIfInBounds_toArray, List.set_cons_zero, List.set_cons_succ]
    refine wpAnyH_ready (rs := [16]) (by kernel_rfl) (by simp) ?_
    refine (AllReadyH.cons rfl (fun K hK => ?_) AllReadyH.nil)
    go_simp
    refine hK.out _ _ (hHeld1.alloc hHeld1.size _) (fun hHeld2 => ?_)
    clear hK K
    try simp only [Act.put, List.getElem_toArray, List.getElem_cons_succ, List.getElem_cons_zero, List.setIfInBounds_toArray, List.set_cons_zero, List.set_cons_succ]
    obtain ⟨W2, hW2⟩ : ∃ V, V = w1.alloc (.cells inflowZ.toArray 39) := ⟨_, rfl⟩
    have N2 := hide (show Bx W2 w1.heap.size inflowZ by rw [hW2]; exact Bx.new w1 _ _)
    have al : Below w1.heap.size w1 W2 := by rw [hW2]; exact (Below.refl _ _).alloc (Nat.le_refl _) _
    rw [← hW2] at hHeld2 ⊢
    have sp : U.heap.size ≤ w1.heap.size := hHeld1.size
    obtain ⟨p, hp⟩ : ∃ p, p = w1.heap.size := ⟨_, rfl⟩
    rw [← hp] at N2 al sp
    try rw [← hp]
    clear hW2
    have n2 := (unhide N2).cv
    have n2f := (unhide N2).fz
    have n2l := (unhide N2).lt
    have N3 := hide (show Bx ((((W2.setCell ⟨p, 0, none⟩ (.int .i64 F.li)).setCell ⟨p, 1, none⟩ (.int .i64 F.re)).setCell ⟨p, 2, none⟩ (.int .i64 F.fi)).setCell ⟨p, 3, none⟩ (.slice a1 F.P.length c1)) p (inflowC F a1 c1) from ((((unhide N2).set (i := 0) (u := .int .i64 F.li) (by simp)).set (i := 1) (u := .int .i64 F.re) (by simp)).set (i := 2) (u := .int .i64 F.fi) (by simp)).set (i := 3) (u := .slice a1 F.P.length c1) (by simp))
    have k3 : Below U.heap.size U ((((W2.setCell ⟨p, 0, none⟩ (.int .i64 F.li)).setCell ⟨p, 1, none⟩ (.int .i64 F.re)).setCell ⟨p, 2, none⟩ (.int .i64 F.fi)).setCell ⟨p, 3, none⟩ (.slice a1 F.P.length c1)) := (((hHeld2.setCell sp _).setCell sp _).setCell sp _).setCell sp _
    have kk : Kq (fun b => b = p) W2 ((((W2.setCell ⟨p, 0, none⟩ (.int .i64 F.li)).setCell ⟨p, 1, none⟩ (.int .i64 F.re)).setCell ⟨p, 2, none⟩ (.int .i64 F.fi)).setCell ⟨p, 3, none⟩ (.slice a1 F.P.length c1)) := ((((Kq.refl (fun b => b = p) W2).set (g := p) (i := 0) (u := .int .i64 F.li) rfl).set (g := p) (i := 1) (u := .int .i64 F.re) rfl).set (g := p) (i := 2) (u := .int .i64 F.fi) rfl).set (g := p) (i := 3) (u := .slice a1 F.P.length c1) rfl
    have O3 : Hid (Ro pieceK 53 (q + 1) ((((W2.setCell ⟨p, 0, none⟩ (.int .i64 F.li)).setCell ⟨p, 1, none⟩ (.int .i64 F.re)).setCell ⟨p, 2, none⟩ (.int .i64 F.fi)).setCell ⟨p, 3, none⟩ (.slice a1 F.P.length c1)) (.slice a1 F.P.length c1) F.P) := (o1.below (by rw [← hp]; exact (((al.setCell (Nat.le_refl _) _).setCell (Nat.le_refl _) _).setCell (Nat.le_refl _) _).setCell (Nat.le_refl _) _)).mono (by omega)
    clear al o1 hp hHeld1 b1
    refine wpAnyH_ready (rs := [17]) (by kernel_rfl) (by simp) ?_
    refine (AllReadyH.cons rfl (fun K hK => ?_) AllReadyH.nil)
    go_simp
    refine hK.out _ _ k3 (fun hHeld3 => ?_)
    clear hK K hHeld2 n2 n2f n2l
    try simp only [Act.put, List.getElem_toArray, List.getElem_cons_succ, List.getElem_cons_zero, List.setIfInBounds_toArray, List.set_cons_zero, List.set_cons_succ]
    obtain ⟨W3, hW3⟩ : ∃ V, V = ((((W2.setCell ⟨p, 0, none⟩ (.int .i64 F.li)).setCell ⟨p, 1, none⟩ (.int .i64 F.re)).setCell ⟨p, 2, none⟩ (.int .i64 F.fi)).setCell ⟨p, 3, none⟩ (.slice a1 F.P.length c1)) := ⟨_, rfl⟩
    rw [← hW3] at N3 k3 O3 hHeld3 ⊢
    clear hW3 kk N2
    refine wpAnyH_take (i := 18) (v := ?_) rfl (by kernel_rfl) (by kernel_rfl) (by kernel_rfl) (fun _ _ _ h => h) (Or.inl ⟨by rfl, ?_⟩) hHeld3 ?_
    rotate_left
    · intro V hSw; go_simp; rfl
    try simp only [Act.put, List.getElem_toArray, List.getElem_cons_succ, List.getElem_cons_zero, List.setIfInBounds_toArray, List.set_cons_zero, List.set_cons_succ]
    refine wpAnyH_done (by kernel_rfl) ?_ _
    refine NoPanic.normal ?_
    have B3 := hide k3
    have A3 := hide ((unhide A0).below k3)
    have K3 := hide ((unhide KU).trans (Kq.of k3))
    clear k3 hHeld3 hHeld HTP KU HU
    have n3 := (unhide N3).cv
    have n3l := (unhide N3).lt
    have a3 := (unhide A3).cv
    have a3l := (unhide A3).lt
    have a3f := (unhide A3).fz
    by_cases h0 : co = 0
    · subst h0
      have e9 : Hid (E = F0) := by show _ = _; rw [unhide HE, if_pos rfl]
      have e8 := unhide HD0 rfl
      subst e8
      have A4 := hide (((((unhide A3).set (i := 0) (u := .int .i64 F.li) (by simp)).set (i := 1) (u := .int .i64 F.re) (by simp)).set (i := 2) (u := .int .i64 F.fi) (by simp)).set (i := 3) (u := .slice a1 F.P.length c1) (by simp))
      have K4 := hide (((((unhide K3).set (g := q) (i := 0) (u := .int .i64 F.li) rfl).set (g := q) (i := 1) (u := .int .i64 F.re) rfl).set (g := q) (i := 2) (u := .int .i64 F.fi) rfl).set (g := q) (i := 3) (u := .slice a1 F.P.length c1) rfl)
      have KW := (((((Kq.refl (fun b => b = q) W3).set (g := q) (i := 0) (u := .int .i64 F.li) rfl).set (g := q) (i := 1) (u := .int .i64 F.re) rfl).set (g := q) (i := 2) (u := .int .i64 F.fi) rfl).set (g := q) (i := 3) (u := .slice a1 F.P.length c1) rfl)
      have O4 := hide ((unhide O3).kq KW (fun b (h : b = q) => by omega))
      clear A3 K3 O3 B3 KW HE HD0
      go_wp2
      go_end0
      rw [unhide e9]
      exact ⟨rfl, a1, c1, unhide A4, unhide O4, unhide K4⟩
    · have e9 : Hid (E = ⟨li, re, fi, P⟩) := by show _ = _; rw [unhide HE, if_neg h0]
      have O5 := hide ((unhide O0).below (unhide B3))
      clear HE HD0
      go_wp2
      go_end0
      rw [unhide e9]
      exact ⟨rfl, a, c, unhide A3, unhide O5, unhide K3⟩
  · go_simp
    refine hK.out _ _ (hHeld.alloc (Nat.le_refl _) _) (fun hHeld1 => ?_)
    clear hK K
    try simp only [Act.put, List.getElem_toArray, List.getElem_cons_succ, List.getElem_cons_zero, List.setIfInBounds_toArray, List.set_cons_zero, List.set_cons_succ]
    obtain ⟨W1, hW1⟩ : ∃ V, V = U.alloc (.cells inflowZ.toArray 39) := ⟨_, rfl⟩
    have N1 := hide (show Bx W1 U.heap.size inflowZ by rw [hW1]; exact Bx.new U _ _)
    rw [← hW1] at hHeld1 ⊢
    have sW1 : W1.heap.size = U.heap.size + 1 := by rw [hW1]; simp
    clear hW1
    refine wpAnyH_ready (rs := [12]) (by kernel_rfl) (by simp) ?_
    refine (AllReadyH.cons rfl (fun K hK => ?_) AllReadyH.nil)
    go_simp
    go_at_call 33
    refine (unhide HTP W1 hHeld1).mono ?_
    rintro e W2 ⟨a1, c1, rfl, o1, b1⟩
    have N2 := hide ((unhide N1).below b1)
    refine hK.out _ _ (hHeld1.trans (b1.mono hHeld1.size)) (fun hHeld2 => ?_)
    clear hK K b1
    try simp only [Act.put, List.getElem_toArray, List.getElem_cons_succ, List.getElem_cons_zero, List.setIfInBounds_toArray, List.set_cons_zero, List.set_cons_succ]
    refine wpAnyH_take (i := 13) (v := ?_) rfl (by kernel_rfl) (by kernel_rfl) (by kernel_rfl) (fun _ _ _ h => h) (Or.inl ⟨by rfl, ?_⟩) hHeld2 ?_
    rotate_left
    · intro V hSw; go_simp; rfl
    try simp only [Act.put, List.getElem_toArray, List.getElem_cons_succ, List.getElem_cons_zero, List.setIfInBounds_toArray, List.set_cons_zero, List.set_cons_succ]
    refine wpAnyH_take (i := 14) (v := ?_) rfl (by kernel_rfl) (by kernel_rfl) (by kernel_rfl) (fun _ _ _ h => h) (Or.inl ⟨by rfl, ?_⟩) hHeld2 ?_
    rotate_left
    · intro V hSw; go_simp; rfl
    try simp only [Act.put, List.getElem_toArray, List.getElem_cons_succ, List.getElem_cons_zero, List.setIfInBounds_toArray, List.set_cons_zero, List.set_cons_succ]
    refine wpAnyH_take (i := 15) (v := ?_) rfl (by kernel_rfl) (by kernel_rfl) (by kernel_rfl) (fun _ _ _ h => h) (Or.inl ⟨by rfl, ?_⟩) hHeld2 ?_
    rotate_left
    · intro V hSw; go_simp; rfl
    try simp only [Act.put, List.getElem_toArray, List.getElem_cons_succ, List.getElem_cons_zero, List.setIfInBounds_toArray, List.set_cons_zero, List.set_cons_succ]
    have sp : U.heap.size ≤ U.heap.size := Nat.le_refl _
    have n2 := (unhide N2).cv
    have n2f := (unhide N2).fz
    have n2l := (unhide N2).lt
    have N3 := hide (show Bx ((((W2.setCell ⟨U.heap.size, 0, none⟩ (.int .i64 F.li)).setCell ⟨U.heap.size, 1, none⟩ (.int .i64 F.re)).setCell ⟨U.heap.size, 2, none⟩ (.int .i64 F.fi)).setCell ⟨U.heap.size, 3, none⟩ (.slice a1 F.P.length c1)) U.heap.size (inflowC F a1 c1) from ((((unhide N2).set (i := 0) (u := .int .i64 F.li) (by simp)).set (i := 1) (u := .int .i64 F.re) (by simp)).set (i := 2) (u := .int .i64 F.fi) (by simp)).set (i := 3) (u := .slice a1 F.P.length c1) (by simp))
    have k3 : Below U.heap.size U ((((W2.setCell ⟨U.heap.size, 0, none⟩ (.int .i64 F.li)).setCell ⟨U.heap.size, 1, none⟩ (.int .i64 F.re)).setCell ⟨U.heap.size, 2, none⟩ (.int .i64 F.fi)).setCell ⟨U.heap.size, 3, none⟩ (.slice a1 F.P.length c1)) := (((hHeld2.setCell sp _).setCell sp _).setCell sp _).setCell sp _
    have kk : Kq (fun b => b = U.heap.size) W2 ((((W2.setCell ⟨U.heap.size, 0, none⟩ (.int .i64 F.li)).setCell ⟨U.heap.size, 1, none⟩ (.int .i64 F.re)).setCell ⟨U.heap.size, 2, none⟩ (.int .i64 F.fi)).setCell ⟨U.heap.size, 3, none⟩ (.slice a1 F.P.length c1)) := ((((Kq.refl (fun b => b = U.heap.size) W2).set (g := U.heap.size) (i := 0) (u := .int .i64 F.li) rfl).set (g := U.heap.size) (i := 1) (u := .int .i64 F.re) rfl).set (g := U.heap.size) (i := 2) (u := .int .i64 F.fi) rfl).set (g := U.heap.size) (i := 3) (u := .slice a1 F.P.length c1) rfl
    have O3 : Hid (Ro pieceK 53 (q + 1) ((((W2.setCell ⟨U.heap.size, 0, none⟩ (.int .i64 F.li)).setCell ⟨U.heap.size, 1, none⟩ (.int .i64 F.re)).setCell ⟨U.heap.size, 2, none⟩ (.int .i64 F.fi)).setCell ⟨U.heap.size, 3, none⟩ (.slice a1 F.P.length c1)) (.slice a1 F.P.length c1) F.P) := (o1.kq kk (fun b (h : b = U.heap.size) => by omega)).mono (by omega)
    clear o1 hHeld1 N1
    refine wpAnyH_ready (rs := [17]) (by kernel_rfl) (by simp) ?_
    refine (AllReadyH.cons rfl (fun K hK => ?_) AllReadyH.nil)
    go_simp
    refine hK.out _ _ k3 (fun hHeld3 => ?_)
    clear hK K hHeld2 n2 n2f n2l
    try simp only [Act.put, List.getElem_toArray, List.getElem_cons_succ, List.getElem_cons_zero, List.setIfInBounds_toArray, List.set_cons_zero, List.set_cons_succ]
    obtain ⟨W3, hW3⟩ : ∃ V, V = ((((W2.setCell ⟨U.heap.size, 0, none⟩ (.int .i64 F.li)).setCell ⟨U.heap.size, 1, none⟩ (.int .i64 F.re)).setCell ⟨U.heap.size, 2, none⟩ (.int .i64 F.fi)).setCell ⟨U.heap.size, 3, none⟩ (.slice a1 F.P.length c1)) := ⟨_, rfl⟩
    rw [← hW3] at N3 k3 O3 hHeld3 ⊢
    clear hW3 kk N2
    refine wpAnyH_take (i := 18) (v := ?_) rfl (by kernel_rfl) (by kernel_rfl) (by kernel_rfl) (fun _ _ _ h => h) (Or.inl ⟨by rfl, ?_⟩) hHeld3 ?_
    rotate_left
    · intro V hSw; go_simp; rfl
    try simp only [Act.put, List.getElem_toArray, List.getElem_cons_succ, List.getElem_cons_zero, List.setIfInBounds_toArray, List.set_cons_zero, List.set_cons_succ]
    refine wpAnyH_done (by kernel_rfl) ?_ _
    refine NoPanic.normal ?_
    have B3 := hide k3
    have A3 := hide ((unhide A0).below k3)
    have K3 := hide ((unhide KU).trans (Kq.of k3))
    clear k3 hHeld3 hHeld HTP KU HU
    have n3 := (unhide N3).cv
    have n3l := (unhide N3).lt
    have a3 := (unhide A3).cv
    have a3l := (unhide A3).lt
    have a3f := (unhide A3).fz
    by_cases h0 : co = 0
    · subst h0
      have e9 : Hid (E = F0) := by show _ = _; rw [unhide HE, if_pos rfl]
      have e8 := unhide HD0 rfl
      subst e8
      have A4 := hide (((((unhide A3).set (i := 0) (u := .int .i64 F.li) (by simp)).set (i := 1) (u := .int .i64 F.re) (by simp)).set (i := 2) (u := .int .i64 F.fi) (by simp)).set (i := 3) (u := .slice a1 F.P.length c1) (by simp))
      have K4 := hide (((((unhide K3).set (g := q) (i := 0) (u := .int .i64 F.li) rfl).set (g := q) (i := 1) (u := .int .i64 F.re) rfl).set (g := q) (i := 2) (u := .int .i64 F.fi) rfl).set (g := q) (i := 3) (u := .slice a1 F.P.length c1) rfl)
      have KW := (((((Kq.refl (fun b => b = q) W3).set (g := q) (i := 0) (u := .int .i64 F.li) rfl).set (g := q) (i := 1) (u := .int .i64 F.re) rfl).set (g := q) (i := 2) (u := .int .i64 F.fi) rfl).set (g := q) (i := 3) (u := .slice a1 F.P.length c1) rfl)
      have O4 := hide ((unhide O3).kq KW (fun b (h : b = q) => by omega))
      clear A3 K3 O3 B3 KW HE HD0
      go_wp2
      go_end0
      rw [unhide e9]
      exact ⟨rfl, a1, c1, unhide A4, unhide O4, unhide K4⟩
    · have e9 : Hid (E = ⟨li, re, fi, P⟩) := by show _ = _; rw [unhide HE, if_neg h0]
      have O5 := hide ((unhide O0).below (unhide B3))
      clear HE HD0
      go_wp2
      go_end0
      rw [unhide e9]
      exact ⟨rfl, a, c, unhide A3, unhide O5, unhide K3⟩
end Go.Proofs.Ytmicpknilhiliaa.Rc
