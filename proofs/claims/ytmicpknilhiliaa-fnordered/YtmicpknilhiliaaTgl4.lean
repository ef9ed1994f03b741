/-
  Contracts of the program: what can be read, what lies from a place on.
-/
import Derived.Test.YtmicpknilhiliaaTgk4
import Derived.Deep.DeepCutAuto
namespace Go.Proofs.Ytmicpknilhiliaa.Rc
open Go.ChangeShapes Go.WideShapes Go.ChangeAt Go.RowKit Go.Deep
set_option linter.unusedVariables false
set_option maxRecDepth 100000

/-- what can be read at once -/
def rtT (D : InflowD) : ByteArray := match D.P with
  | [] => ⟨#[]⟩
  | p :: _ => if p.f0 = D.re then p.f1 else ⟨#[]⟩
/-- what lies from a place on -/
def psL (P : List PieceD) (at' : Int) : List PieceD := P.filterMap fun p => if (prF p at').f1.size = 0 then none else some (prF p at')
theorem ext0 (d : ByteArray) : d.extract 0 d.size = d := ByteArray.ext (by rw [ByteArray.data_extract]; exact Array.extract_size)
theorem prF_same {p : PieceD} {at' : Int} (h : at' ≤ p.f0) : prF p at' = p := by
  have e1 : prC p at' = 0 := by unfold prC; omega
  unfold prF
  rw [e1, ext0]
  obtain ⟨a, b⟩ := p
  show (⟨a + ((0 : Nat) : Int), b⟩ : PieceD) = ⟨a, b⟩
  rw [show a + ((0 : Nat) : Int) = a by omega]
theorem psL_same : ∀ {P : List PieceD} {lo at' : Int}, Can lo P → at' ≤ lo → psL P at' = P
  | [], _, _, _, _ => rfl
  | p :: P, lo, at', hc, h => by
    have e1 := prF_same (p := p) (at' := at') (by have := hc.1; omega)
    unfold psL
    rw [List.filterMap_cons_some (b := p) (by rw [e1, if_neg (by have := hc.2.1; omega)])]
    have := psL_same (P := P) hc.2.2 (at' := at') (by have := hc.1; have := hc.2.1; unfold pE; omega)
    unfold psL at this
    rw [this]
theorem empS (most : Int) (h : 0 ≤ most) : (if most < ((⟨#[]⟩ : ByteArray).size : Int) then most.toNat else (⟨#[]⟩ : ByteArray).size) = 0 := by
  have e : (⟨#[]⟩ : ByteArray).size = 0 := rfl
  rw [e, if_neg (by omega)]
/-- what is read of a good inflow, as the program does -/
theorem rd_is {D : InflowD} {most : Int} (g : GoodI D) (h0 : 0 ≤ most) :
    rdO D most = (rtT D).extract 0 (if most < (rtT D).size then most.toNat else (rtT D).size) ∧ rdE D most = ⟨D.li, D.re + (rdO D most).size, D.fi, psL D.P (D.re + (rdO D most).size)⟩ := by
  obtain ⟨li, re, fi, P⟩ := D
  have gc := g.can
  dsimp only at gc
  cases P with
  | nil =>
    have e1 : rdO ⟨li, re, fi, []⟩ most = ⟨#[]⟩ := rfl
    have e2 : rdE ⟨li, re, fi, []⟩ most = ⟨li, re, fi, []⟩ := rfl
    have e3 : rtT ⟨li, re, fi, []⟩ = ⟨#[]⟩ := rfl
    rw [e1, e2, e3]
    refine ⟨?_, ?_⟩
    · rw [empS most h0]
      rfl
    · show (⟨li, re, fi, []⟩ : InflowD) = ⟨li, re + ((0 : Nat) : Int), fi, []⟩
      rw [show re + ((0 : Nat) : Int) = re by omega]
  | cons p Q =>
    obtain ⟨c1, c2, c3⟩ := gc
    have ep : pE p = p.f0 + p.f1.size := rfl
    by_cases hp : p.f0 = re
    · have e3 : rtT ⟨li, re, fi, p :: Q⟩ = p.f1 := by unfold rtT; dsimp only; rw [if_pos hp]
      rw [e3]
      have en : (if most < (p.f1.size : Int) then most.toNat else p.f1.size) = rdN p most := by unfold rdN; rfl
      rw [en]
      have hn : rdN p most ≤ p.f1.size := by unfold rdN; split <;> omega
      by_cases hm : most = 0
      · have n0 : rdN p most = 0 := by unfold rdN; rw [if_pos (by omega)]; omega
        have e1 : rdO ⟨li, re, fi, p :: Q⟩ most = ⟨#[]⟩ := by unfold rdO; dsimp only; rw [if_neg (fun q => q.2 hm)]
        have e2 : rdE ⟨li, re, fi, p :: Q⟩ most = ⟨li, re, fi, p :: Q⟩ := by unfold rdE; dsimp only; rw [if_neg (fun q => q.2 hm)]
        rw [e1, e2, n0]
        refine ⟨?_, ?_⟩
        · apply ByteArray.ext
          rw [ByteArray.data_extract]
          simp
        · show (⟨li, re, fi, p :: Q⟩ : InflowD) = ⟨li, re + ((0 : Nat) : Int), fi, psL (p :: Q) (re + ((0 : Nat) : Int))⟩
          rw [show re + ((0 : Nat) : Int) = re by omega, psL_same (P := p :: Q) (lo := re) ⟨c1, c2, c3⟩ (Int.le_refl _)]
      · have e1 : rdO ⟨li, re, fi, p :: Q⟩ most = p.f1.extract 0 (rdN p most) := by unfold rdO; dsimp only; rw [if_pos ⟨hp, hm⟩]
        have e2 : rdE ⟨li, re, fi, p :: Q⟩ most = rdL ⟨li, re, fi, p :: Q⟩ p Q (rdN p most) := by unfold rdE; dsimp only; rw [if_pos ⟨hp, hm⟩]
        rw [e1, e2]
        generalize rdN p most = n at *
        have sz : (p.f1.extract 0 n).size = n := by rw [ByteArray.size_extract]; omega
        rw [sz]
        refine ⟨rfl, ?_⟩
        have ec : prC p (re + n) = n := by unfold prC; omega
        have er : psL Q (re + n) = Q := psL_same c3 (by omega)
        have ef : prF p (re + n) = ⟨re + n, p.f1.extract n p.f1.size⟩ := by unfold prF; rw [ec, hp]
        have sf : (prF p (re + n)).f1.size = p.f1.size - n := by rw [ef]; dsimp only; rw [ByteArray.size_extract]; omega
        unfold rdL
        dsimp only
        by_cases hz : n = p.f1.size
        · rw [if_pos hz]
          have : psL (p :: Q) (re + n) = psL Q (re + n) := by unfold psL; rw [List.filterMap_cons_none (by rw [if_pos (by rw [sf]; omega)])]
          rw [this, er]
        · rw [if_neg hz]
          have : psL (p :: Q) (re + n) = prF p (re + n) :: psL Q (re + n) := by unfold psL; rw [List.filterMap_cons_some (b := prF p (re + n)) (by rw [if_neg (by rw [sf]; omega)])]
          rw [this, er, ef]
    · have e3 : rtT ⟨li, re, fi, p :: Q⟩ = ⟨#[]⟩ := by unfold rtT; dsimp only; rw [if_neg hp]
      have e1 : rdO ⟨li, re, fi, p :: Q⟩ most = ⟨#[]⟩ := by unfold rdO; dsimp only; rw [if_neg (fun q => hp q.1)]
      have e2 : rdE ⟨li, re, fi, p :: Q⟩ most = ⟨li, re, fi, p :: Q⟩ := by unfold rdE; dsimp only; rw [if_neg (fun q => hp q.1)]
      rw [e1, e2, e3]
      refine ⟨?_, ?_⟩
      · rw [empS most h0]
        rfl
      · show (⟨li, re, fi, p :: Q⟩ : InflowD) = ⟨li, re + ((0 : Nat) : Int), fi, psL (p :: Q) (re + ((0 : Nat) : Int))⟩
        rw [show re + ((0 : Nat) : Int) = re by omega, psL_same (P := p :: Q) (lo := re) ⟨c1, c2, c3⟩ (Int.le_refl _)]
theorem psL_take {P : List PieceD} {at' : Int} {k : Nat} (h : k < P.length) : psL (P.take (k + 1)) at' = if (prF (gt pieceK P k) at').f1.size = 0 then psL (P.take k) at' else psL (P.take k) at' ++ [prF (gt pieceK P k) at'] := by
  rw [takeP h]
  unfold psL
  rw [List.filterMap_append]
  generalize gt pieceK P k = q
  by_cases hz : (prF q at').f1.size = 0
  · rw [if_pos hz, List.filterMap_cons_none (by rw [if_pos hz])]
    simp
  · rw [if_neg hz, List.filterMap_cons_some (b := prF q at') (by rw [if_neg hz])]
    rfl
theorem psL_len (P : List PieceD) (at' : Int) : (psL P at').length ≤ P.length := List.length_filterMap_le _ _
set_option maxHeartbeats 8000000 in
theorem implPs (P : List PieceD) (at' : Int) (W : World) (a : Option Addr) (c : Nat) (hn : P.length ≤ 1000) (hl : ∀ p ∈ P, lowP p) (a0 : 0 ≤ at') (a1 : at' ≤ 1000000) (h : Rd pieceK W a P) :
    Calls Try.prog 40 #[.slice a P.length c, .int .i64 at'] W fun e w' => ∃ (a' : Option Addr) (c' : Nat), e = .returned (.slice a' (psL P at').length c') ∧ Ro pieceK 53 W.heap.size w' (.slice a' (psL P at').length c') (psL P at') ∧ Below W.heap.size W w' := by
  have HR := hide (fun V (b : Below W.heap.size W V) => h.below b)
  have HL := hide hl
  have O0 : Hid (Ro pieceK 53 W.heap.size W (.slice none 0 0) (psL (P.take 0) at')) := Ro.nil _ _ _ _
  clear h hl
  go_enter Try.func40, Try.ntmps40
  go_wp2_with fail
  go_loopw [5, 7, 8, 11] (fun v5 _ _ iv wr => ∃ k : Nat, k ≤ P.length ∧ iv = .int .i64 k ∧ Hid (Ro pieceK 53 W.heap.size wr v5 (psL (P.take k) at')) ∧ Hid (Below W.heap.size W wr)) (fun _ _ _ iv _ => P.length - (intOf iv).toNat)
  case atStart => exact ⟨0, Nat.zero_le _, rfl, O0, Below.refl _ _⟩
  case round =>
    obtain ⟨k, hk, rfl, hO, hB⟩ := hrel
    clear O0
    by_cases hlt : k < P.length
    · rcases unhide HR wr (unhide hB) with h9 | ⟨b, oo, rfl, hbl, hel⟩
      · rw [h9] at hlt; exact absurd hlt (Nat.not_lt_zero _)
      have c0 := piece_r0 hel hlt
      have c1 := piece_r1 hel hlt
      have lq := unhide HL _ (gt_mem pieceK P k hlt)
      have htk := hide (psL_take (at' := at') hlt)
      have hl9 : (psL (P.take k) at').length ≤ 1000 := Nat.le_trans (psL_len _ _) (by rw [List.length_take]; omega)
      generalize gt pieceK P k = q at *
      have HPF := hide (fun V => implPF q at' V (by have := lq.1; omega) (by have := lq.2; unfold pE at this; omega) (by have := lq.1; have := lq.2; unfold pE at this; omega) (by omega) (by omega))
      generalize prF q at' = x at *
      have hnk : (k : Int) < (P.length : Int) := by omega
      have hk0' : (0 : Int) ≤ (k : Int) := by omega
      obtain ⟨W1, hW1⟩ : ∃ V, V = wr.alloc (.cells #[.int .i64 q.f0, .string q.f1] 53) := ⟨_, rfl⟩
      have al1 : Below wr.heap.size wr W1 := by rw [hW1]; exact (Below.refl _ _).alloc (Nat.le_refl _) _
      have Y1 := hide (show Bx W1 wr.heap.size (pieceC q) by rw [hW1]; exact Bx.new wr _ _)
      have O1 := hide ((unhide hO).below al1)
      have B1 := hide ((unhide hB).trans (al1.mono (unhide hB).size))
      have HW1 := hide hW1
      clear hel al1 hO hB hW1 lq
      go_upto_region 5 with fail
      rw [← unhide HW1]
      clear HW1 c0 c1
      have y1 := (unhide Y1).cv
      have y1l := (unhide Y1).lt
      go_wp2_with fail
      refine (unhide HPF _).mono ?_
      rintro e w2 ⟨rfl, b2⟩
      obtain ⟨V3, hV3⟩ : ∃ V, V = w2.alloc (.cells #[.int .i64 x.f0, .string x.f1] 53) := ⟨_, rfl⟩
      have al3 : Below w2.heap.size w2 V3 := by rw [hV3]; exact (Below.refl _ _).alloc (Nat.le_refl _) _
      have Y3 := hide (show Bx V3 w2.heap.size (pieceC x) by rw [hV3]; exact Bx.new w2 _ _)
      have O3 := hide (((unhide O1).below b2).below al3)
      have B3 := hide (((unhide B1).trans (b2.mono (unhide B1).size)).trans (al3.mono (Nat.le_trans (unhide B1).size b2.size)))
      have HV3 := hide hV3
      clear b2 al3 hV3 O1 B1 y1 y1l Y1 HPF
      go_upto_region 6 with fail
      rw [← unhide HV3]
      clear HV3
      have y3 := (unhide Y3).cv
      have y3l := (unhide Y3).lt
      by_cases hz : x.f1.size = 0
      · have z1 : x.f1.toList = [] := (sz_nil _).2 hz
        have O4 : Hid (Ro pieceK 53 W.heap.size V3 u5 (psL (P.take (k + 1)) at')) := by show Ro _ _ _ _ _ _; rw [unhide htk, if_pos hz]; exact unhide O3
        clear O3 htk hz
        go_wp2
        exact ⟨⟨k + 1, by omega, by go_num, O4, B3⟩, by simp [intOf]; omega⟩
      · have z1 : ¬ x.f1.toList = [] := fun e => hz ((sz_nil _).1 e)
        have z2 : x.f1.toList.isEmpty = false := em_no z1
        obtain ⟨v6, w6, run6, o6, b6, h6⟩ := pushPiece V3 W.heap.size u5 (psL (P.take k) at') x (unhide O3) (by omega) (unhide B3).size
        have O4 : Hid (Ro pieceK 53 W.heap.size w6 v6 (psL (P.take (k + 1)) at')) := by show Ro _ _ _ _ _ _; rw [unhide htk, if_neg hz]; exact o6
        have B4 := hide ((unhide B3).trans b6)
        have RUN6 := hide run6
        clear run6 o6 b6 h6 O3 B3 htk hz
        go_wp2_with (at_builtin; refine wpl_app rfl _ _ 37 rfl _ _ _ _ rfl rfl (unhide RUN6) ?_)
        exact ⟨⟨k + 1, by omega, by go_num, O4, B4⟩, by simp [intOf]; omega⟩
    · obtain rfl : k = P.length := by omega
      rw [List.take_length] at hO
      obtain ⟨a3, c3, e3⟩ := (unhide hO).opens
      rw [e3] at hO ⊢
      clear e3
      go_wp2
      go_ret
      exact ⟨a3, c3, rfl, unhide hO, unhide hB⟩
set_option maxHeartbeats 4000000 in
theorem implRb (D : InflowD) (a : Option Addr) (c : Nat) (W : World) (h : Rd pieceK W a D.P) :
    Calls Try.prog 39 #[inflowV D a c] W fun e w' => e = .returned (.string (rtT D)) ∧ Below W.heap.size W w' := by
  obtain ⟨V0, hV0⟩ : ∃ V, V = W.alloc (.cells (inflowC D a c).toArray 39) := ⟨_, rfl⟩
  have A0 := hide (show Bx V0 W.heap.size (inflowC D a c) by rw [hV0]; exact Bx.new W _ _)
  have B0 := hide (show Below W.heap.size W V0 by rw [hV0]; exact (Below.refl W.heap.size W).alloc (Nat.le_refl _) _)
  have HR := h.below (unhide B0)
  have HV0 := hide hV0
  have HT : Hid (rtT D = match D.P with | [] => ⟨#[]⟩ | p :: _ => if p.f0 = D.re then p.f1 else ⟨#[]⟩) := rfl
  generalize rtT D = tx at *
  obtain ⟨li, re, fi, P⟩ := D
  dsimp only at *
  clear hV0 h
  by_cases hz : P.length = 0
  · have ht : Hid (tx = ⟨#[]⟩) := by show _ = _; rw [unhide HT, List.length_eq_zero_iff.1 hz]
    have t0 : ((P.length : Int) == 0) = true := by simp [hz]
    clear HR HT hz
    rw [unhide ht]
    go_enter Try.func39, Try.ntmps39
    go_upto_region 1 with fail
    rw [← unhide HV0]
    clear HV0
    refine wp_region_noPanic ?_
    refine wp_region_held_drew (S := fun V => Below V0.heap.size V0 V) (by kernel_rfl) ((Below.refl _ _).drew) (fun hHeld => ?_)
    refine wpAnyH_take (i := 0) (v := ?_) rfl (by kernel_rfl) (by kernel_rfl) (by kernel_rfl) (fun _ _ _ h => h) (Or.inl ⟨by rfl, ?_⟩) hHeld ?_
    rotate_left
    · intro V hSw; have y1 := (Bx.below (unhide A0) hSw).cv; have y2 := (Bx.below (unhide A0) hSw).lt; go_simp; rfl
    try simp only [Act.put, List.getElem_toArray, List.getElem_cons_zero, List.setIfInBounds_toArray, List.set_cons_zero, List.set_cons_succ]
    refine wpAnyH_take (i := 1) (v := ?_) rfl (by kernel_rfl) (by kernel_rfl) (by kernel_rfl) (fun _ _ _ h => h) (Or.inl ⟨by rfl, ?_⟩) hHeld ?_
    rotate_left
    · intro V hSw; have y1 := (Bx.below (unhide A0) hSw).cv; have y2 := (Bx.below (unhide A0) hSw).lt; go_simp; rfl
    try simp only [Act.put, List.getElem_toArray, List.getElem_cons_succ, List.getElem_cons_zero, List.setIfInBounds_toArray, List.set_cons_zero, List.set_cons_succ]
    refine wpAnyH_take (i := 2) (v := ?_) rfl (by kernel_rfl) (by kernel_rfl) (by kernel_rfl) (fun _ _ _ h => h) (Or.inl ⟨by rfl, ?_⟩) hHeld ?_
    rotate_left
    · intro V hSw; have y1 := (Bx.below (unhide A0) hSw).cv; have y2 := (Bx.below (unhide A0) hSw).lt; go_simp; rfl
    try simp only [Act.put, List.getElem_toArray, List.getElem_cons_succ, List.getElem_cons_zero, List.setIfInBounds_toArray, List.set_cons_zero, List.set_cons_succ]
    refine wpAnyH_take (i := 3) (v := ?_) rfl (by kernel_rfl) (by kernel_rfl) (by kernel_rfl) (fun _ _ _ h => h) (Or.inl ⟨by rfl, ?_⟩) hHeld ?_
    rotate_left
    · intro V hSw; have y1 := (Bx.below (unhide A0) hSw).cv; have y2 := (Bx.below (unhide A0) hSw).lt; go_simp; rfl
    try simp only [Act.put, List.getElem_toArray, List.getElem_cons_succ, List.getElem_cons_zero, List.setIfInBounds_toArray, List.set_cons_zero, List.set_cons_succ]
    refine wpAnyH_take (i := 4) (v := ?_) rfl (by kernel_rfl) (by kernel_rfl) (by kernel_rfl) (fun _ _ _ h => h) (Or.inl ⟨by rfl, ?_⟩) hHeld ?_
    rotate_left
    · intro V hSw; have y1 := (Bx.below (unhide A0) hSw).cv; have y2 := (Bx.below (unhide A0) hSw).lt; go_simp; rfl
    try simp only [Act.put, List.getElem_toArray, List.getElem_cons_succ, List.getElem_cons_zero, List.setIfInBounds_toArray, List.set_cons_zero, List.set_cons_succ]
    refine wpAnyH_take (i := 5) (v := undef) rfl (by kernel_rfl) (by kernel_rfl) (by kernel_rfl) (fun _ _ _ h => h) (Or.inr ⟨by rfl, rfl⟩) hHeld ?_
    try simp only [Act.put, List.getElem_toArray, List.getElem_cons_succ, List.getElem_cons_zero, List.setIfInBounds_toArray, List.set_cons_zero, List.set_cons_succ]
    refine wpAnyH_take (i := 6) (v := undef) rfl (by kernel_rfl) (by kernel_rfl) (by kernel_rfl) (fun _ _ _ h => h) (Or.inr ⟨by rfl, rfl⟩) hHeld ?_
    try simp only [Act.put, List.getElem_toArray, List.getElem_cons_succ, List.getElem_cons_zero, List.setIfInBounds_toArray, List.set_cons_zero, List.set_cons_succ]
    refine wpAnyH_take (i := 7) (v := undef) rfl (by kernel_rfl) (by kernel_rfl) (by kernel_rfl) (fun _ _ _ h => h) (Or.inr ⟨by rfl, rfl⟩) hHeld ?_
    try simp only [Act.put, List.getElem_toArray, List.getElem_cons_succ, List.getElem_cons_zero, List.setIfInBounds_toArray, List.set_cons_zero, List.set_cons_succ]
    refine wpAnyH_take (i := 8) (v := undef) rfl (by kernel_rfl) (by kernel_rfl) (by kernel_rfl) (fun _ _ _ h => h) (Or.inr ⟨by rfl, rfl⟩) hHeld ?_
    try simp only [Act.put, List.getElem_toArray, List.getElem_cons_succ, List.getElem_cons_zero, List.setIfInBounds_toArray, List.set_cons_zero, List.set_cons_succ]
    refine wpAnyH_take (i := 9) (v := undef) rfl (by kernel_rfl) (by kernel_rfl) (by kernel_rfl) (fun _ _ _ h => h) (Or.inr ⟨by rfl, rfl⟩) hHeld ?_
    try simp only [Act.put, List.getElem_toArray, List.getElem_cons_succ, List.getElem_cons_zero, List.setIfInBounds_toArray, List.set_cons_zero, List.set_cons_succ]
    refine wpAnyH_take (i := 10) (v := undef) rfl (by kernel_rfl) (by kernel_rfl) (by kernel_rfl) (fun _ _ _ h => h) (Or.inr ⟨by rfl, rfl⟩) hHeld ?_
    try simp only [Act.put, List.getElem_toArray, List.getElem_cons_succ, List.getElem_cons_zero, List.setIfInBounds_toArray, List.set_cons_zero, List.set_cons_succ]
    refine wpAnyH_take (i := 11) (v := undef) rfl (by kernel_rfl) (by kernel_rfl) (by kernel_rfl) (fun _ _ _ h => h) (Or.inr ⟨by rfl, rfl⟩) hHeld ?_
    try simp only [Act.put, List.getElem_toArray, List.getElem_cons_succ, List.getElem_cons_zero, List.setIfInBounds_toArray, List.set_cons_zero, List.set_cons_succ]
    refine wpAnyH_take (i := 12) (v := undef) rfl (by kernel_rfl) (by kernel_rfl) (by kernel_rfl) (fun _ _ _ h => h) (Or.inr ⟨by rfl, rfl⟩) hHeld ?_
    try simp only [Act.put, List.getElem_toArray, List.getElem_cons_succ, List.getElem_cons_zero, List.setIfInBounds_toArray, List.set_cons_zero, List.set_cons_succ]
    refine wpAnyH_take (i := 13) (v := ?_) rfl (by kernel_rfl) (by kernel_rfl) (by kernel_rfl) (fun _ _ _ h => h) (Or.inl ⟨by rfl, ?_⟩) hHeld ?_
    rotate_left
    · intro V hSw; go_simp; rfl
    try simp only [Act.put, List.getElem_toArray, List.getElem_cons_succ, List.getElem_cons_zero, List.setIfInBounds_toArray, List.set_cons_zero, List.set_cons_succ]
    refine wpAnyH_done (by kernel_rfl) ?_ _
    refine NoPanic.normal ?_
    have B1 := hide ((unhide B0).trans (hHeld.mono (unhide B0).size))
    clear hHeld
    go_wp2
    go_ret
    exact ⟨rfl, unhide B1⟩
  · rcases HR with h9 | ⟨b, oo, rfl, hbl, hel⟩
    · rw [h9] at hz; exact absurd rfl hz
    have hlt : 0 < P.length := by omega
    have HC0 := hide (fun V (b : Below V0.heap.size V0 V) => (b.cell (p := ⟨_, oo + 0 * 2, none⟩) (Nat.lt_of_lt_of_le hbl (Nat.le_refl _))).trans (piece_r0 hel hlt))
    have HC1 := hide (fun V (b : Below V0.heap.size V0 V) => (b.cell (p := ⟨_, oo + 0 * 2 + 1, none⟩) (Nat.lt_of_lt_of_le hbl (Nat.le_refl _))).trans (piece_r1 hel hlt))
    have ht : Hid (tx = if (gt pieceK P 0).f0 = re then (gt pieceK P 0).f1 else ⟨#[]⟩) := by
      show _ = _
      rw [unhide HT]
      cases P with
      | nil => exact absurd hlt (Nat.lt_irrefl _)
      | cons p Q => rfl
    generalize gt pieceK P 0 = q at *
    rw [Nat.zero_mul, Nat.add_zero] at HC0 HC1
    have t0 : ((P.length : Int) == 0) = false := by rw [beq_eq_false_iff_ne]; omega
    have n1 : (0 : Int) < (P.length : Int) := by omega
    have n2 : 0 < P.length := hlt
    clear HT hel hz
    go_enter Try.func39, Try.ntmps39
    go_upto_region 1 with fail
    rw [← unhide HV0]
    clear HV0
    refine wp_region_noPanic ?_
    refine wp_region_held_drew (S := fun V => Below V0.heap.size V0 V) (by kernel_rfl) ((Below.refl _ _).drew) (fun hHeld => ?_)
    refine wpAnyH_take (i := 0) (v := ?_) rfl (by kernel_rfl) (by kernel_rfl) (by kernel_rfl) (fun _ _ _ h => h) (Or.inl ⟨by rfl, ?_⟩) hHeld ?_
    rotate_left
    · intro V hSw; have y1 := (Bx.below (unhide A0) hSw).cv; have y2 := (Bx.below (unhide A0) hSw).lt; have z0 := unhide HC0 V hSw; have z1 := unhide HC1 V hSw; have z2 := Nat.lt_of_lt_of_le hbl hSw.size; go_simp; rfl
    try simp only [Act.put, List.getElem_toArray, List.getElem_cons_zero, List.setIfInBounds_toArray, List.set_cons_zero, List.set_cons_succ]
    refine wpAnyH_take (i := 1) (v := ?_) rfl (by kernel_rfl) (by kernel_rfl) (by kernel_rfl) (fun _ _ _ h => h) (Or.inl ⟨by rfl, ?_⟩) hHeld ?_
    rotate_left
    · intro V hSw; have y1 := (Bx.below (unhide A0) hSw).cv; have y2 := (Bx.below (unhide A0) hSw).lt; have z0 := unhide HC0 V hSw; have z1 := unhide HC1 V hSw; have z2 := Nat.lt_of_lt_of_le hbl hSw.size; go_simp; rfl
    try simp only [Act.put, List.getElem_toArray, List.getElem_cons_succ, List.getElem_cons_zero, List.setIfInBounds_toArray, List.set_cons_zero, List.set_cons_succ]
    refine wpAnyH_take (i := 2) (v := ?_) rfl (by kernel_rfl) (by kernel_rfl) (by kernel_rfl) (fun _ _ _ h => h) (Or.inl ⟨by rfl, ?_⟩) hHeld ?_
    rotate_left
    · intro V hSw; have y1 := (Bx.below (unhide A0) hSw).cv; have y2 := (Bx.below (unhide A0) hSw).lt; have z0 := unhide HC0 V hSw; have z1 := unhide HC1 V hSw; have z2 := Nat.lt_of_lt_of_le hbl hSw.size; go_simp; rfl
    try simp only [Act.put, List.getElem_toArray, List.getElem_cons_succ, List.getElem_cons_zero, List.setIfInBounds_toArray, List.set_cons_zero, List.set_cons_succ]
    refine wpAnyH_take (i := 3) (v := ?_) rfl (by kernel_rfl) (by kernel_rfl) (by kernel_rfl) (fun _ _ _ h => h) (Or.inl ⟨by rfl, ?_⟩) hHeld ?_
    rotate_left
    · intro V hSw; have y1 := (Bx.below (unhide A0) hSw).cv; have y2 := (Bx.below (unhide A0) hSw).lt; have z0 := unhide HC0 V hSw; have z1 := unhide HC1 V hSw; have z2 := Nat.lt_of_lt_of_le hbl hSw.size; go_simp; rfl
    try simp only [Act.put, List.getElem_toArray, List.getElem_cons_succ, List.getElem_cons_zero, List.setIfInBounds_toArray, List.set_cons_zero, List.set_cons_succ]
    refine wpAnyH_take (i := 4) (v := ?_) rfl (by kernel_rfl) (by kernel_rfl) (by kernel_rfl) (fun _ _ _ h => h) (Or.inl ⟨by rfl, ?_⟩) hHeld ?_
    rotate_left
    · intro V hSw; have y1 := (Bx.below (unhide A0) hSw).cv; have y2 := (Bx.below (unhide A0) hSw).lt; have z0 := unhide HC0 V hSw; have z1 := unhide HC1 V hSw; have z2 := Nat.lt_of_lt_of_le hbl hSw.size; go_simp; rfl
    try simp only [Act.put, List.getElem_toArray, List.getElem_cons_succ, List.getElem_cons_zero, List.setIfInBounds_toArray, List.set_cons_zero, List.set_cons_succ]
    refine wpAnyH_take (i := 5) (v := ?_) rfl (by kernel_rfl) (by kernel_rfl) (by kernel_rfl) (fun _ _ _ h => h) (Or.inl ⟨by rfl, ?_⟩) hHeld ?_
    rotate_left
    · intro V hSw; have y1 := (Bx.below (unhide A0) hSw).cv; have y2 := (Bx.below (unhide A0) hSw).lt; have z0 := unhide HC0 V hSw; have z1 := unhide HC1 V hSw; have z2 := Nat.lt_of_lt_of_le hbl hSw.size; go_simp; rfl
    try simp only [Act.put, List.getElem_toArray, List.getElem_cons_succ, List.getElem_cons_zero, List.setIfInBounds_toArray, List.set_cons_zero, List.set_cons_succ]
    refine wpAnyH_take (i := 6) (v := ?_) rfl (by kernel_rfl) (by kernel_rfl) (by kernel_rfl) (fun _ _ _ h => h) (Or.inl ⟨by rfl, ?_⟩) hHeld ?_
    rotate_left
    · intro V hSw; have y1 := (Bx.below (unhide A0) hSw).cv; have y2 := (Bx.below (unhide A0) hSw).lt; have z0 := unhide HC0 V hSw; have z1 := unhide HC1 V hSw; have z2 := Nat.lt_of_lt_of_le hbl hSw.size; go_simp; rfl
    try simp only [Act.put, List.getElem_toArray, List.getElem_cons_succ, List.getElem_cons_zero, List.setIfInBounds_toArray, List.set_cons_zero, List.set_cons_succ]
    refine wpAnyH_take (i := 7) (v := ?_) rfl (by kernel_rfl) (by kernel_rfl) (by kernel_rfl) (fun _ _ _ h => h) (Or.inl ⟨by rfl, ?_⟩) hHeld ?_
    rotate_left
    · intro V hSw; have y1 := (Bx.below (unhide A0) hSw).cv; have y2 := (Bx.below (unhide A0) hSw).lt; have z0 := unhide HC0 V hSw; have z1 := unhide HC1 V hSw; have z2 := Nat.lt_of_lt_of_le hbl hSw.size; go_simp; rfl
    try simp only [Act.put, List.getElem_toArray, List.getElem_cons_succ, List.getElem_cons_zero, List.setIfInBounds_toArray, List.set_cons_zero, List.set_cons_succ]
    refine wpAnyH_take (i := 8) (v := ?_) rfl (by kernel_rfl) (by kernel_rfl) (by kernel_rfl) (fun _ _ _ h => h) (Or.inl ⟨by rfl, ?_⟩) hHeld ?_
    rotate_left
    · intro V hSw; have y1 := (Bx.below (unhide A0) hSw).cv; have y2 := (Bx.below (unhide A0) hSw).lt; have z0 := unhide HC0 V hSw; have z1 := unhide HC1 V hSw; have z2 := Nat.lt_of_lt_of_le hbl hSw.size; go_simp; rfl
    try simp only [Act.put, List.getElem_toArray, List.getElem_cons_succ, List.getElem_cons_zero, List.setIfInBounds_toArray, List.set_cons_zero, List.set_cons_succ]
    refine wpAnyH_take (i := 9) (v := ?_) rfl (by kernel_rfl) (by kernel_rfl) (by kernel_rfl) (fun _ _ _ h => h) (Or.inl ⟨by rfl, ?_⟩) hHeld ?_
    rotate_left
    · intro V hSw; have y1 := (Bx.below (unhide A0) hSw).cv; have y2 := (Bx.below (unhide A0) hSw).lt; have z0 := unhide HC0 V hSw; have z1 := unhide HC1 V hSw; have z2 := Nat.lt_of_lt_of_le hbl hSw.size; go_simp; rfl
    try simp only [Act.put, List.getElem_toArray, List.getElem_cons_succ, List.getElem_cons_zero, List.setIfInBounds_toArray, List.set_cons_zero, List.set_cons_succ]
    refine wpAnyH_take (i := 10) (v := ?_) rfl (by kernel_rfl) (by kernel_rfl) (by kernel_rfl) (fun _ _ _ h => h) (Or.inl ⟨by rfl, ?_⟩) hHeld ?_
    rotate_left
    · intro V hSw; have y1 := (Bx.below (unhide A0) hSw).cv; have y2 := (Bx.below (unhide A0) hSw).lt; have z0 := unhide HC0 V hSw; have z1 := unhide HC1 V hSw; have z2 := Nat.lt_of_lt_of_le hbl hSw.size; go_simp; rfl
    try simp only [Act.put, List.getElem_toArray, List.getElem_cons_succ, List.getElem_cons_zero, List.setIfInBounds_toArray, List.set_cons_zero, List.set_cons_succ]
    refine wpAnyH_take (i := 11) (v := ?_) rfl (by kernel_rfl) (by kernel_rfl) (by kernel_rfl) (fun _ _ _ h => h) (Or.inl ⟨by rfl, ?_⟩) hHeld ?_
    rotate_left
    · intro V hSw; have y1 := (Bx.below (unhide A0) hSw).cv; have y2 := (Bx.below (unhide A0) hSw).lt; have z0 := unhide HC0 V hSw; have z1 := unhide HC1 V hSw; have z2 := Nat.lt_of_lt_of_le hbl hSw.size; go_simp; rfl
    try simp only [Act.put, List.getElem_toArray, List.getElem_cons_succ, List.getElem_cons_zero, List.setIfInBounds_toArray, List.set_cons_zero, List.set_cons_succ]
    refine wpAnyH_take (i := 12) (v := ?_) rfl (by kernel_rfl) (by kernel_rfl) (by kernel_rfl) (fun _ _ _ h => h) (Or.inl ⟨by rfl, ?_⟩) hHeld ?_
    rotate_left
    · intro V hSw; have y1 := (Bx.below (unhide A0) hSw).cv; have y2 := (Bx.below (unhide A0) hSw).lt; have z0 := unhide HC0 V hSw; have z1 := unhide HC1 V hSw; have z2 := Nat.lt_of_lt_of_le hbl hSw.size; go_simp; rfl
    try simp only [Act.put, List.getElem_toArray, List.getElem_cons_succ, List.getElem_cons_zero, List.setIfInBounds_toArray, List.set_cons_zero, List.set_cons_succ]
    refine wpAnyH_take (i := 13) (v := ?_) rfl (by kernel_rfl) (by kernel_rfl) (by kernel_rfl) (fun _ _ _ h => h) (Or.inl ⟨by rfl, ?_⟩) hHeld ?_
    rotate_left
    · intro V hSw; have y1 := (Bx.below (unhide A0) hSw).cv; have y2 := (Bx.below (unhide A0) hSw).lt; have z0 := unhide HC0 V hSw; have z1 := unhide HC1 V hSw; have z2 := Nat.lt_of_lt_of_le hbl hSw.size; go_simp; rfl
    try simp only [Act.put, List.getElem_toArray, List.getElem_cons_succ, List.getElem_cons_zero, List.setIfInBounds_toArray, List.set_cons_zero, List.set_cons_succ]
    refine wpAnyH_done (by kernel_rfl) ?_ _
    refine NoPanic.normal ?_
    have B1 := hide ((unhide B0).trans (hHeld.mono (unhide B0).size))
    have A1 := hide ((unhide A0).below hHeld)
    have x0 := unhide HC0 _ hHeld
    have x1 := unhide HC1 _ hHeld
    have x2 := Nat.lt_of_lt_of_le hbl hHeld.size
    have x3 := (unhide A1).cv
    have x3l := (unhide A1).lt
    clear hHeld HC0 HC1 A0 B0
    by_cases hp : q.f0 = re
    · have ht2 : Hid (tx = q.f1) := by show _ = _; rw [unhide ht, if_pos hp]
      have t1 : (q.f0 != re) = false := by simp [hp]
      clear ht hp
      go_wp2
      go_ret
      exact ⟨by rw [unhide ht2]; rfl, unhide B1⟩
    · have ht2 : Hid (tx = ⟨#[]⟩) := by show _ = _; rw [unhide ht, if_neg hp]
      have t1 : (q.f0 != re) = true := by simp [hp]
      clear ht hp
      go_wp2
      go_ret
      exact ⟨by rw [unhide ht2]; rfl, unhide B1⟩
end Go.Proofs.Ytmicpknilhiliaa.Rc
