/-
  Contract of the program: the desk serves: of two channels one of which holds something.
-/
import Derived.Test.YtmicpknilhiliaaTgq4
namespace Go.Proofs.Ytmicpknilhiliaa.Rc
open Go.ChangeShapes Go.WideShapes Go.ChangeAt Go.RowKit Go.Deep Go.Conc
set_option linter.unusedVariables false
set_option maxRecDepth 100000

abbrev incZ : Value := .agg #[.int .i64 0, .string ⟨#[]⟩, .bool false]
abbrev selC (x y : Nat) : Array CommCase := #[rcase x incZ, rcase y (.int .i64 0)]
theorem selR0 (x y : Nat) (v : Value) : commResult (selC x y) .select (0 : Nat) v true = .tuple #[.int .i64 0, .bool true, v, .int .i64 0] := by simp [commResult, rcase, List.zipIdx_cons, goInt]
theorem selR1 (x y : Nat) (v : Value) : commResult (selC x y) .select (1 : Nat) v true = .tuple #[.int .i64 1, .bool true, incZ, v] := by simp [commResult, rcase, List.zipIdx_cons, goInt]
theorem Chn.noWay {w : World} {c s r : Nat} {z : Value} (h : Chn w c #[] s r) : NoWay w (rcase c z) := noWay_recv h
theorem Chn.set (w : World) (c s r : Nat) (buf : Array Value) (h : c < w.heap.size) : Chn (w.setChan c 1 buf false s r false) c buf s r := heap_setChan w c 1 buf false s r false h
theorem Chn.other {w : World} {c c' s r s' r' : Nat} {buf buf' : Array Value} (h : Chn w c buf s r) (hne : c' ≠ c) : Chn (w.setChan c' 1 buf' false s' r' false) c buf s r := by
  unfold Chn at *
  rw [← h]
  exact Array.getElem?_setIfInBounds_ne hne
theorem bx_chan {w : World} {b c s r : Nat} {xs : List Value} {buf : Array Value} (h : Bx w b xs) (hne : c ≠ b) : Bx (w.setChan c 1 buf false s r false) b xs :=
  h.kept (Nat.le_of_eq (size_setChan ..).symm) (Array.getElem?_setIfInBounds_ne hne)
theorem Kq.chan (w : World) (c s r : Nat) (buf : Array Value) : Kq (fun b => b = c) w (w.setChan c 1 buf false s r false) :=
  ⟨rfl, rfl, rfl, Nat.le_of_eq (size_setChan ..).symm, fun k hk hn => Array.getElem?_setIfInBounds_ne (fun e => hn e.symm)⟩
theorem ex1 (u : Value) : (#[u] : Array Value).extract 1 (#[u] : Array Value).size = #[] := by simp
theorem gd1 (u : Value) : (#[u] : Array Value).getD 0 undef = u := rfl
set_option maxHeartbeats 8000000 in
theorem implSV0 (D : InflowD) (a : Option Addr) (c x y q s r s' r' : Nat) (v : Value) (S : ByteArray) (at' : Int) (d : ByteArray) (fin : Bool) (base : Nat) (W : World) (g : GoodI D) (hd : d.size ≤ 1099511627776) (hx : base ≤ x ∧ x < q) (hy : base ≤ y ∧ y < q) (hxy : x ≠ y)
    (hX : Bx W q (deskC D a c x y v)) (hO : Ro pieceK 53 (q + 1) W (.slice a D.P.length c) D.P) (hS : Bo (q + 1) W v S) (cx : Chn W x #[.agg #[.int .i64 at', .string d, .bool fin]] s r) (cy : Chn W y #[] s' r') :
    Calls Try.prog 16 #[.pointer (some ⟨q, 0, none⟩)] W fun e w' => e = .returned (.tuple #[]) ∧ ∃ (a' : Option Addr) (c' : Nat), Bx w' q (deskC (dtE D at' d fin) a' c' x y v) ∧ Ro pieceK 53 (q + 1) w' (.slice a' (dtE D at' d fin).P.length c') (dtE D at' d fin).P ∧ Bo (q + 1) w' v S ∧ Chn w' x #[] s (r + 1) ∧ Chn w' y #[] s' r' ∧ Below base W w' := by
  obtain ⟨V, hV⟩ : ∃ V, V = W.setChan x 1 #[] false s (r + 1) false := ⟨_, rfl⟩
  have x0 := hX.cv
  have x0l := hX.lt
  have hxl := cx.lt
  have kx : Kq (fun b => b = x) W V := by rw [hV]; exact Kq.chan W x s (r + 1) #[]
  have A1 : Bx V q (deskC D a c x y v) := by rw [hV]; exact bx_chan hX (by omega)
  have O1 := hO.kq kx (fun b (h : b = x) => by omega)
  have S1 := hS.kq kx (fun b (h : b = x) => by omega)
  have C1 : Chn V x #[] s (r + 1) := by rw [hV]; exact Chn.set W x s (r + 1) #[] hxl
  have C2 : Chn V y #[] s' r' := by rw [hV]; exact cy.other hxy
  have B1 : Below base W V := kx.below (by omega) (fun b (h : b = x) => by omega)
  have sV := kx.size
  obtain ⟨V2, hV2⟩ : ∃ V2, V2 = V.alloc (.cells #[.int .i64 at', .string d, .bool fin] 55) := ⟨_, rfl⟩
  have al : Below V.heap.size V V2 := by rw [hV2]; exact (Below.refl _ _).alloc (Nat.le_refl _) _
  have N2 := hide (show Bx V2 V.heap.size [.int .i64 at', .string d, .bool fin] by rw [hV2]; exact Bx.new V _ _)
  have A2 := A1.below al
  have O2 := O1.below al
  have HDT := hide (implDT D a c x y q v at' d fin V2 (good_ok g) hd A2 O2)
  have S2 := hide (S1.below al)
  have C12 := hide (C1.below al)
  have C22 := hide (C2.below al)
  have B2 := hide (B1.trans (al.mono (by omega)))
  have sV2 : W.heap.size ≤ V2.heap.size := by have := al.size; omega
  have HV := hide hV
  have HV2 := hide hV2
  have CX := hide cx
  have CY := hide cy
  generalize dtE D at' d fin = E at *
  clear hV hV2 A1 O1 S1 C1 C2 B1 A2 O2 al kx hX hO hS cx cy g
  obtain ⟨li, re, fi, P⟩ := D
  go_enter Try.func16, Try.ntmps16
  go_upto_region 2 with fail
  refine wp_lw ?_
  refine Lw.select (j := 0) (c := x) (cap := 1) (z := incZ) (s := s) (r := r) (closed := false) (tm := false) (buf := #[.agg #[.int .i64 at', .string d, .bool fin]]) (cases := selC x y) (blocking := true) (w₁ := W) rfl (by rfl) (by simp [go_sem, execOp, rcase, Act.eval]) rfl (fun m c' hm hc' => ?_) (unhide CX) (by simp) ?_
  · rcases m with _ | _ | m
    · exact absurd rfl hm
    · simp only [List.getElem?_toArray, List.getElem?_cons_succ, List.getElem?_cons_zero, Option.some.injEq] at hc'
      subst hc'
      exact (unhide CY).noWay
    · simp at hc'
  rw [selR0, ex1, gd1, ← unhide HV]
  simp only [Act.put, List.getElem_toArray, List.getElem_cons_zero, List.setIfInBounds_toArray, List.set_cons_zero, List.set_cons_succ]
  refine Lw.value (w' := V) (v := .int .i64 0) rfl (by rfl) (by simp [go_sem, execOp, Act.eval]) ?_
  simp only [Act.put, List.getElem_toArray, List.getElem_cons_succ, List.getElem_cons_zero, List.setIfInBounds_toArray, List.set_cons_zero, List.set_cons_succ]
  refine Lw.value (w' := V) (v := .bool true) rfl (by rfl) (by simp [go_sem, execOp, Act.eval]) ?_
  simp only [Act.put, List.getElem_toArray, List.getElem_cons_succ, List.getElem_cons_zero, List.setIfInBounds_toArray, List.set_cons_zero, List.set_cons_succ]
  refine Lw.value (w' := V) (v := .bool false) rfl (by rfl) (by simp [go_sem, execOp, Act.eval]) ?_
  simp only [Act.put, List.getElem_toArray, List.getElem_cons_succ, List.getElem_cons_zero, List.setIfInBounds_toArray, List.set_cons_zero, List.set_cons_succ]
  refine Lw.done ?_
  clear HV CX CY x0 x0l
  go_upto_region 4 with fail
  rw [← unhide HV2]
  clear HV2
  have n2 := (unhide N2).cv
  have n2l := (unhide N2).lt
  go_wp2_with fail
  refine (unhide HDT).mono ?_
  rintro e w3 ⟨rfl, a1, c1, A3, O3, k3⟩
  have B3 := (unhide B2).trans (k3.below (by omega) (fun b (h : b = q) => by omega))
  have S3 := (unhide S2).kq k3 (fun b (h : b = q) => by omega)
  have C13 : Chn w3 x #[] s (r + 1) := (k3.block x (unhide C12).lt (fun (h : x = q) => by omega)).trans (unhide C12)
  have C23 : Chn w3 y #[] s' r' := (k3.block y (unhide C22).lt (fun (h : y = q) => by omega)).trans (unhide C22)
  have F1 := hide A3
  have F2 := hide O3
  have F3 := hide S3
  have F4 := hide C13
  have F5 := hide C23
  have F6 := hide B3
  clear A3 O3 k3 B3 S3 C13 C23 B2 S2 C12 C22 n2 n2l N2 HDT
  go_wp2
  go_end0
  exact ⟨rfl, a1, c1, unhide F1, unhide F2, unhide F3, unhide F4, unhide F5, unhide F6⟩
set_option maxHeartbeats 8000000 in
theorem implSV1 (D : InflowD) (a : Option Addr) (c x y q s r s' r' : Nat) (v : Value) (S : ByteArray) (base : Nat) (W : World) (g : GoodI D) (hz : S.size ≤ 1000000) (hx : base ≤ x ∧ x < q) (hy : base ≤ y ∧ y < q) (hxy : x ≠ y)
    (hX : Bx W q (deskC D a c x y v)) (hO : Ro pieceK 53 (q + 1) W (.slice a D.P.length c) D.P) (hS : Bo (q + 1) W v S) (cx : Chn W x #[] s r) (cy : Chn W y #[.int .i64 4000] s' r') :
    Calls Try.prog 16 #[.pointer (some ⟨q, 0, none⟩)] W fun e w' => e = .returned (.tuple #[]) ∧ ∃ (a' : Option Addr) (c' : Nat) (v' : Value), Bx w' q (deskC (rdE D 4000) a' c' x y v') ∧ Ro pieceK 53 (q + 1) w' (.slice a' (rdE D 4000).P.length c') (rdE D 4000).P ∧ Bo (q + 1) w' v' (S ++ rdO D 4000) ∧ Chn w' x #[] s r ∧ Chn w' y #[] s' (r' + 1) ∧ Below base W w' := by
  obtain ⟨V, hV⟩ : ∃ V, V = W.setChan y 1 #[] false s' (r' + 1) false := ⟨_, rfl⟩
  have x0 := hX.cv
  have x0l := hX.lt
  have hyl := cy.lt
  have kx : Kq (fun b => b = y) W V := by rw [hV]; exact Kq.chan W y s' (r' + 1) #[]
  have A1 : Bx V q (deskC D a c x y v) := by rw [hV]; exact bx_chan hX (by omega)
  have O1 := hO.kq kx (fun b (h : b = y) => by omega)
  have S1 := hS.kq kx (fun b (h : b = y) => by omega)
  have C1 : Chn V y #[] s' (r' + 1) := by rw [hV]; exact Chn.set W y s' (r' + 1) #[] hyl
  have C2 : Chn V x #[] s r := by rw [hV]; exact cx.other (fun e => hxy e.symm)
  have B1 : Below base W V := kx.below (by omega) (fun b (h : b = y) => by omega)
  have HDH := hide (implDH D a c x y q v S V g hz A1 O1 S1)
  have C12 := hide C1
  have C22 := hide C2
  have B2 := hide B1
  have sV := kx.size
  have HV := hide hV
  have CX := hide cx
  have CY := hide cy
  generalize rdE D 4000 = E at *
  generalize rdO D 4000 = u at *
  clear hV A1 O1 S1 C1 C2 B1 kx hX hO hS cx cy g
  obtain ⟨li, re, fi, P⟩ := D
  go_enter Try.func16, Try.ntmps16
  go_upto_region 2 with fail
  refine wp_lw ?_
  refine Lw.select (j := 1) (c := y) (cap := 1) (z := .int .i64 0) (s := s') (r := r') (closed := false) (tm := false) (buf := #[.int .i64 4000]) (cases := selC x y) (blocking := true) (w₁ := W) rfl (by rfl) (by simp [go_sem, execOp, rcase, Act.eval]) rfl (fun m c' hm hc' => ?_) (unhide CY) (by simp) ?_
  · rcases m with _ | _ | m
    · simp only [List.getElem?_toArray, List.getElem?_cons_zero, Option.some.injEq] at hc'
      subst hc'
      exact (unhide CX).noWay
    · exact absurd rfl hm
    · simp at hc'
  rw [selR1, ex1, gd1, ← unhide HV]
  simp only [Act.put, List.getElem_toArray, List.getElem_cons_zero, List.setIfInBounds_toArray, List.set_cons_zero, List.set_cons_succ]
  refine Lw.value (w' := V) (v := .int .i64 1) rfl (by rfl) (by simp [go_sem, execOp, Act.eval]) ?_
  simp only [Act.put, List.getElem_toArray, List.getElem_cons_succ, List.getElem_cons_zero, List.setIfInBounds_toArray, List.set_cons_zero, List.set_cons_succ]
  refine Lw.value (w' := V) (v := .bool false) rfl (by rfl) (by simp [go_sem, execOp, Act.eval]) ?_
  simp only [Act.put, List.getElem_toArray, List.getElem_cons_succ, List.getElem_cons_zero, List.setIfInBounds_toArray, List.set_cons_zero, List.set_cons_succ]
  refine Lw.value (w' := V) (v := .bool true) rfl (by rfl) (by simp [go_sem, execOp, Act.eval]) ?_
  simp only [Act.put, List.getElem_toArray, List.getElem_cons_succ, List.getElem_cons_zero, List.setIfInBounds_toArray, List.set_cons_zero, List.set_cons_succ]
  refine Lw.done ?_
  clear HV CX CY x0 x0l
  go_wp2_with fail
  refine (unhide HDH).mono ?_
  rintro e w3 ⟨rfl, a1, c1, v1, A3, O3, S3, b3⟩
  have B3 := (unhide B2).trans (b3.mono (by omega))
  have C13 : Chn w3 x #[] s r := (b3.block x (by omega)).trans (unhide C22)
  have C23 : Chn w3 y #[] s' (r' + 1) := (b3.block y (by omega)).trans (unhide C12)
  have F1 := hide A3
  have F2 := hide O3
  have F3 := hide S3
  have F4 := hide C13
  have F5 := hide C23
  have F6 := hide B3
  clear A3 O3 b3 B3 S3 C13 C23 B2 C12 C22 HDH
  go_wp2
  go_end0
  exact ⟨rfl, a1, c1, v1, unhide F1, unhide F2, unhide F3, unhide F4, unhide F5, unhide F6⟩
end Go.Proofs.Ytmicpknilhiliaa.Rc
