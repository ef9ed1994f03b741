/-
  Contract of the program: a piece put between others.
-/
import Derived.Test.YtmicpknilhiliaaTgg4
import Derived.Deep.DeepCutAuto
import Derived.Deep.CutBlock
namespace Go.Proofs.Ytmicpknilhiliaa.Rc
open Go.ChangeShapes Go.WideShapes Go.ChangeAt Go.RowKit Go.Deep
set_option linter.unusedVariables false
set_option maxRecDepth 100000

theorem rd_one {V : World} {g : Nat} {p : PieceD} (h : Bx V g (pieceC p)) : Rd pieceK V (some ⟨g, 0, none⟩) [p] := by
  refine Or.inr ⟨g, 0, rfl, h.lt, fun q hq => ?_⟩
  have hm : pieceK.m = 2 := rfl
  rw [hm] at hq
  have hq2 : q = 0 ∨ q = 1 := by simp at hq; omega
  rcases hq2 with rfl | rfl
  · exact h.cv 0
  · exact h.cv 1
/-- a row that comes in, as a slice -/
def Sl4 (a : Option Addr) (c n : Nat) : Prop := (∃ b o, a = some ⟨b, o, none⟩ ∧ n ≤ c) ∨ (a = none ∧ c = 0 ∧ n = 0)
theorem putS_ge {p : PieceD} {P : List PieceD} {x : PieceD} (h : ¬ pE p < x.f0) (h' : ¬ pE x < p.f0) : putS (p :: P) x = putS P (mgS p x) := by rw [putS, if_neg h, if_neg h']
theorem putS_end {p : PieceD} {P : List PieceD} {x : PieceD} (h : ¬ pE p < x.f0) (h' : pE x < p.f0) : putS (p :: P) x = x :: p :: P := by rw [putS, if_neg h, if_pos h']
theorem putS_lo {p : PieceD} {P : List PieceD} {x : PieceD} (h : pE p < x.f0) : putS (p :: P) x = p :: putS P x := by rw [putS, if_pos h]
theorem takeP {P : List PieceD} {k : Nat} (h : k < P.length) : P.take (k + 1) = P.take k ++ [gt pieceK P k] := by rw [gt_of pieceK P k h]; exact (List.take_append_getElem h).symm
/-- how the second loop stands: what is left of the pieces, what is put -/
structure W2I (P : List PieceD) (R : List PieceD) (from' to' : Nat) (p : PieceD) : Prop where
  r : R = P.take from' ++ putS (P.drop to') p
  low : lowP p
  can : ∃ lo, Can lo (P.drop to')
  ag : Agr4 (P.drop to') p
  ge : ∀ q ∈ P.drop to', p.f0 ≤ pE q
theorem w2_step {P R : List PieceD} {f t : Nat} {p : PieceD} (h : W2I P R f t p) (ht : t < P.length) (hl : ∀ q ∈ P, lowP q) (hle : (gt pieceK P t).f0 ≤ pE p) : W2I P R f (t + 1) (unP p (gt pieceK P t)) := by
  obtain ⟨r, lw, ⟨lo, cn⟩, ag, ge⟩ := h
  have hd := dropP ht
  have lq := hl _ (gt_mem pieceK P t ht)
  generalize gt pieceK P t = q at *
  rw [hd] at r cn ag ge
  have hq := ge q List.mem_cons_self
  have hh := agr_head ag
  have e := un_mg hq hle hh
  have m := mgS_in (p := q) (x := p) hq hle
  refine ⟨?_, low_un hq hle hh lw lq, ⟨_, cn.2.2⟩, ?_, fun s hs => ?_⟩
  · rw [r, putS_ge (by omega) (by omega), e]
  · rw [e]; exact agr_mg cn ag hq hle
  · rw [e, m.1]
    have := ge s (List.mem_cons_of_mem _ hs)
    omega
theorem w2_stop {P R : List PieceD} {f t : Nat} {p : PieceD} (h : W2I P R f t p) (ht : t < P.length) (hgt : ¬ (gt pieceK P t).f0 ≤ pE p) : R = P.take f ++ [p] ++ P.drop t := by
  obtain ⟨r, lw, cn, ag, ge⟩ := h
  have hd := dropP ht
  rw [hd] at r ge
  have hq := ge _ List.mem_cons_self
  rw [r, putS_end (by omega) (by omega), List.append_assoc, hd]
  rfl
theorem w2_all {P R : List PieceD} {f : Nat} {p : PieceD} (h : W2I P R f P.length p) : R = P.take f ++ [p] ++ P.drop P.length := by
  have r := h.r
  rw [List.drop_length] at r ⊢
  rw [r, List.append_nil]
  rfl
set_option maxHeartbeats 16000000 in
theorem implWP (P : List PieceD) (x : PieceD) (lo : Int) (hc : Can lo P) (hl : ∀ p ∈ P, lowP p) (hx : lowP x) (hz : x.f1.size ≠ 0) (ag : Agr4 P x) (hn : P.length ≤ 900) (W : World) (a : Option Addr) (c : Nat) (hs : Sl4 a c P.length) (hcm : c ≤ maxLen) (h : Rd pieceK W a P) :
    Calls Try.prog 45 #[.slice a P.length c, pieceV x] W fun e w' => ∃ v, e = .returned v ∧ Ro pieceK 53 W.heap.size w' v (putS P x) ∧ Below W.heap.size W w' := by
  obtain ⟨V0, hV0⟩ : ∃ V, V = W.alloc (.cells (pieceC x).toArray 53) := ⟨_, rfl⟩
  have A0 := hide (show Bx V0 W.heap.size (pieceC x) by rw [hV0]; exact Bx.new W _ _)
  have B0 := hide (show Below W.heap.size W V0 by rw [hV0]; exact (Below.refl W.heap.size W).alloc (Nat.le_refl _) _)
  have HR := hide (fun V (b : Below W.heap.size W V) => h.below b)
  have HV0 := hide hV0
  have HL := hide hl
  have HS := hide hs
  have R0 : Hid (putS P x = P.take 0 ++ putS (P.drop 0) x) := rfl
  have C0 : Hid (∃ lo, Can lo (P.drop 0)) := ⟨lo, hc⟩
  have G0 : Hid (Agr4 (P.drop 0) x) := ag
  obtain ⟨R, hR⟩ : ∃ R, R = putS P x := ⟨_, rfl⟩
  rw [← hR] at R0 ⊢
  have z1 : ¬ x.f1.toList = [] := fun e => hz ((sz_nil _).1 e)
  have z2 : x.f1.toList.isEmpty = false := em_no z1
  have HX := hide hx
  have x0 := (unhide A0).cv
  have x0l := (unhide A0).lt
  clear hV0 h hl hs ag hc hR hz hx
  go_enter Try.func45, Try.ntmps45
  go_upto_region 1 with fail
  rw [← unhide HV0]
  clear HV0
  go_upto_block 0 with fail
  go_cut [5] (fun s5 wx => ∃ k : Nat, k ≤ P.length ∧ s5 = .int .i64 k ∧ Hid (R = P.take k ++ putS (P.drop k) x) ∧ Hid (∃ lo, Can lo (P.drop k)) ∧ Hid (Agr4 (P.drop k) x) ∧ Hid (∀ q ∈ P.drop k, x.f0 ≤ pE q) ∧ Hid (Bx wx W.heap.size (pieceC x)) ∧ Hid (Below W.heap.size W wx))
  case first =>
    go_wp2_with fail
    go_loopw [5] (fun v5 wr => ∃ k : Nat, k ≤ P.length ∧ v5 = .int .i64 k ∧ Hid (R = P.take k ++ putS (P.drop k) x) ∧ Hid (∃ lo, Can lo (P.drop k)) ∧ Hid (Agr4 (P.drop k) x) ∧ Hid (Bx wr W.heap.size (pieceC x)) ∧ Hid (Below W.heap.size W wr)) (fun v5 _ => P.length - (intOf v5).toNat)
    case atStart => exact ⟨0, Nat.zero_le _, rfl, R0, C0, G0, A0, B0⟩
    case round =>
      obtain ⟨k, hk, rfl, hR, hC, hG, hX, hB⟩ := hrel
      clear R0 C0 G0 A0 B0 x0 x0l
      obtain ⟨W1, hW1⟩ : ∃ V, V = wr := ⟨_, rfl⟩
      subst hW1
      by_cases hlt : k < P.length
      · rcases unhide HR W1 (unhide hB) with h9 | ⟨b, oo, rfl, hbl, hel⟩
        · rw [h9] at hlt; exact absurd hlt (Nat.not_lt_zero _)
        have HC0 := hide (fun V (b : Below W1.heap.size W1 V) => (b.cell (p := ⟨_, oo + k * 2, none⟩) (Nat.lt_of_lt_of_le hbl (Nat.le_refl _))).trans (piece_r0 hel hlt))
        have HC1 := hide (fun V (b : Below W1.heap.size W1 V) => (b.cell (p := ⟨_, oo + k * 2 + 1, none⟩) (Nat.lt_of_lt_of_le hbl (Nat.le_refl _))).trans (piece_r1 hel hlt))
        have lq := unhide HL _ (gt_mem pieceK P k hlt)
        have hd := hide (dropP hlt)
        have htk := hide (takeP hlt)
        generalize gt pieceK P k = q at *
        have HEN := hide (fun W => implEnd q W (by have := lq.1; omega) (by have := lq.2; unfold pE at this; omega) (by have := lq.1; have := lq.2; unfold pE at this; omega))
        have hnk : (k : Int) < (P.length : Int) := by omega
        have hk0' : (0 : Int) ≤ (k : Int) := by omega
        have pq : lowP q := lq
        obtain ⟨e, he⟩ : ∃ e, e = pE q := ⟨_, rfl⟩
        rw [← he] at HEN
        have HE := hide he
        have HQ := hide pq
        clear hel lq he pq
        go_upto_region 4 with fail
        refine wp_region_noPanic ?_
        refine wp_region_held_drew (S := fun V => Below W1.heap.size W1 V) (by kernel_rfl) ((Below.refl _ _).drew) (fun hHeld => ?_)
        refine wpAnyH_take (i := 0) (v := ?_) rfl (by kernel_rfl) (by kernel_rfl) (by kernel_rfl) (fun _ _ _ h => h) (Or.inl ⟨by rfl, ?_⟩) hHeld ?_
        rotate_left
        · intro V hSw; have y1 := (Bx.below (unhide hX) hSw).cv; have y2 := (Bx.below (unhide hX) hSw).lt; have z0 := unhide HC0 V hSw; have z1 := unhide HC1 V hSw; have z2 := Nat.lt_of_lt_of_le hbl hSw.size; go_simp; rfl
        try simp only [Act.put, List.getElem_toArray, List.getElem_cons_zero, List.setIfInBounds_toArray, List.set_cons_zero, List.set_cons_succ]
        refine wpAnyH_take (i := 1) (v := ?_) rfl (by kernel_rfl) (by kernel_rfl) (by kernel_rfl) (fun _ _ _ h => h) (Or.inl ⟨by rfl, ?_⟩) hHeld ?_
        rotate_left
        · intro V hSw; have y1 := (Bx.below (unhide hX) hSw).cv; have y2 := (Bx.below (unhide hX) hSw).lt; have z0 := unhide HC0 V hSw; have z1 := unhide HC1 V hSw; have z2 := Nat.lt_of_lt_of_le hbl hSw.size; go_simp; rfl
        try simp only [Act.put, List.getElem_toArray, List.getElem_cons_succ, List.getElem_cons_zero, List.setIfInBounds_toArray, List.set_cons_zero, List.set_cons_succ]
        refine wpAnyH_take (i := 2) (v := ?_) rfl (by kernel_rfl) (by kernel_rfl) (by kernel_rfl) (fun _ _ _ h => h) (Or.inl ⟨by rfl, ?_⟩) hHeld ?_
        rotate_left
        · intro V hSw; have y1 := (Bx.below (unhide hX) hSw).cv; have y2 := (Bx.below (unhide hX) hSw).lt; have z0 := unhide HC0 V hSw; have z1 := unhide HC1 V hSw; have z2 := Nat.lt_of_lt_of_le hbl hSw.size; go_simp; rfl
        try simp only [Act.put, List.getElem_toArray, List.getElem_cons_succ, List.getElem_cons_zero, List.setIfInBounds_toArray, List.set_cons_zero, List.set_cons_succ]
        refine wpAnyH_take (i := 3) (v := ?_) rfl (by kernel_rfl) (by kernel_rfl) (by kernel_rfl) (fun _ _ _ h => h) (Or.inl ⟨by rfl, ?_⟩) hHeld ?_
        rotate_left
        · intro V hSw; have y1 := (Bx.below (unhide hX) hSw).cv; have y2 := (Bx.below (unhide hX) hSw).lt; have z0 := unhide HC0 V hSw; have z1 := unhide HC1 V hSw; have z2 := Nat.lt_of_lt_of_le hbl hSw.size; go_simp; rfl
        try simp only [Act.put, List.getElem_toArray, List.getElem_cons_succ, List.getElem_cons_zero, List.setIfInBounds_toArray, List.set_cons_zero, List.set_cons_succ]
        refine wpAnyH_take (i := 4) (v := ?_) rfl (by kernel_rfl) (by kernel_rfl) (by kernel_rfl) (fun _ _ _ h => h) (Or.inl ⟨by rfl, ?_⟩) hHeld ?_
        rotate_left
        · intro V hSw; have y1 := (Bx.below (unhide hX) hSw).cv; have y2 := (Bx.below (unhide hX) hSw).lt; have z0 := unhide HC0 V hSw; have z1 := unhide HC1 V hSw; have z2 := Nat.lt_of_lt_of_le hbl hSw.size; go_simp; rfl
        try simp only [Act.put, List.getElem_toArray, List.getElem_cons_succ, List.getElem_cons_zero, List.setIfInBounds_toArray, List.set_cons_zero, List.set_cons_succ]
        refine wpAnyH_take (i := 5) (v := ?_) rfl (by kernel_rfl) (by kernel_rfl) (by kernel_rfl) (fun _ _ _ h => h) (Or.inl ⟨by rfl, ?_⟩) hHeld ?_
        rotate_left
        · intro V hSw; have y1 := (Bx.below (unhide hX) hSw).cv; have y2 := (Bx.below (unhide hX) hSw).lt; have z0 := unhide HC0 V hSw; have z1 := unhide HC1 V hSw; have z2 := Nat.lt_of_lt_of_le hbl hSw.size; go_simp; rfl
        try simp only [Act.put, List.getElem_toArray, List.getElem_cons_succ, List.getElem_cons_zero, List.setIfInBounds_toArray, List.set_cons_zero, List.set_cons_succ]
        refine wpAnyH_take (i := 6) (v := ?_) rfl (by kernel_rfl) (by kernel_rfl) (by kernel_rfl) (fun _ _ _ h => h) (Or.inl ⟨by rfl, ?_⟩) hHeld ?_
        rotate_left
        · intro V hSw; have y1 := (Bx.below (unhide hX) hSw).cv; have y2 := (Bx.below (unhide hX) hSw).lt; have z0 := unhide HC0 V hSw; have z1 := unhide HC1 V hSw; have z2 := Nat.lt_of_lt_of_le hbl hSw.size; go_simp; rfl
        try simp only [Act.put, List.getElem_toArray, List.getElem_cons_succ, List.getElem_cons_zero, List.setIfInBounds_toArray, List.set_cons_zero, List.set_cons_succ]
        refine wpAnyH_take (i := 7) (v := ?_) rfl (by kernel_rfl) (by kernel_rfl) (by kernel_rfl) (fun _ _ _ h => h) (Or.inl ⟨by rfl, ?_⟩) hHeld ?_
        rotate_left
        · intro V hSw; have y1 := (Bx.below (unhide hX) hSw).cv; have y2 := (Bx.below (unhide hX) hSw).lt; have z0 := unhide HC0 V hSw; have z1 := unhide HC1 V hSw; have z2 := Nat.lt_of_lt_of_le hbl hSw.size; go_simp; rfl
        try simp only [Act.put, List.getElem_toArray, List.getElem_cons_succ, List.getElem_cons_zero, List.setIfInBounds_toArray, List.set_cons_zero, List.set_cons_succ]
        refine wpAnyH_take (i := 8) (v := ?_) rfl (by kernel_rfl) (by kernel_rfl) (by kernel_rfl) (fun _ _ _ h => h) (Or.inl ⟨by rfl, ?_⟩) hHeld ?_
        rotate_left
        · intro V hSw; have y1 := (Bx.below (unhide hX) hSw).cv; have y2 := (Bx.below (unhide hX) hSw).lt; have z0 := unhide HC0 V hSw; have z1 := unhide HC1 V hSw; have z2 := Nat.lt_of_lt_of_le hbl hSw.size; go_simp; rfl
        try simp only [Act.put, List.getElem_toArray, List.getElem_cons_succ, List.getElem_cons_zero, List.setIfInBounds_toArray, List.set_cons_zero, List.set_cons_succ]
        refine wpAnyH_take (i := 10) (v := ?_) rfl (by kernel_rfl) (by kernel_rfl) (by kernel_rfl) (fun _ _ _ h => h) (Or.inl ⟨by rfl, ?_⟩) hHeld ?_
        rotate_left
        · intro V hSw; have y1 := (Bx.below (unhide hX) hSw).cv; have y2 := (Bx.below (unhide hX) hSw).lt; have z0 := unhide HC0 V hSw; have z1 := unhide HC1 V hSw; have z2 := Nat.lt_of_lt_of_le hbl hSw.size; go_simp; rfl
        try simp only [Act.put, List.getElem_toArray, List.getElem_cons_succ, List.getElem_cons_zero, List.setIfInBounds_toArray, List.set_cons_zero, List.set_cons_succ]
        refine wpAnyH_take (i := 11) (v := ?_) rfl (by kernel_rfl) (by kernel_rfl) (by kernel_rfl) (fun _ _ _ h => h) (Or.inl ⟨by rfl, ?_⟩) hHeld ?_
        rotate_left
        · intro V hSw; have y1 := (Bx.below (unhide hX) hSw).cv; have y2 := (Bx.below (unhide hX) hSw).lt; have z0 := unhide HC0 V hSw; have z1 := unhide HC1 V hSw; have z2 := Nat.lt_of_lt_of_le hbl hSw.size; go_simp; rfl
        try simp only [Act.put, List.getElem_toArray, List.getElem_cons_succ, List.getElem_cons_zero, List.setIfInBounds_toArray, List.set_cons_zero, List.set_cons_succ]
        refine wpAnyH_ready (rs := [9]) (by kernel_rfl) (by simp) ?_
        refine (AllReadyH.cons rfl (fun K hK => ?_) AllReadyH.nil)
        go_simp
        go_at_call 42
        refine (unhide HEN _).mono ?_
        rintro e w4 ⟨rfl, b4⟩
        refine hK.out _ _ (hHeld.trans (b4.mono hHeld.size)) (fun hHeld => ?_)
        clear hK K
        try simp only [Act.put, List.getElem_toArray, List.getElem_cons_succ, List.getElem_cons_zero, List.setIfInBounds_toArray, List.set_cons_zero, List.set_cons_succ]
        clear b4
        refine wpAnyH_take (i := 12) (v := ?_) rfl (by kernel_rfl) (by kernel_rfl) (by kernel_rfl) (fun _ _ _ h => h) (Or.inl ⟨by rfl, ?_⟩) hHeld ?_
        rotate_left
        · intro V hSw; go_simp; rfl
        try simp only [Act.put, List.getElem_toArray, List.getElem_cons_succ, List.getElem_cons_zero, List.setIfInBounds_toArray, List.set_cons_zero, List.set_cons_succ]
        refine wpAnyH_take (i := 13) (v := ?_) rfl (by kernel_rfl) (by kernel_rfl) (by kernel_rfl) (fun _ _ _ h => h) (Or.inl ⟨by rfl, ?_⟩) hHeld ?_
        rotate_left
        · intro V hSw; go_simp; rfl
        try simp only [Act.put, List.getElem_toArray, List.getElem_cons_succ, List.getElem_cons_zero, List.setIfInBounds_toArray, List.set_cons_zero, List.set_cons_succ]
        refine wpAnyH_done (by kernel_rfl) ?_ _
        refine NoPanic.normal ?_
        have GX := hide ((unhide hX).below hHeld)
        have GB := hide ((unhide hB).trans (hHeld.mono (unhide hB).size))
        clear hHeld
        by_cases hb : e < x.f0
        · have hb' : decide (e < x.f0) = true := decide_eq_true hb
          have wk : IntKind.i64.wrap ((k : Int) + 1) = ((k + 1 : Nat) : Int) := by rw [IntKind.wrap_i64]; omega
          have R1 : Hid (R = P.take (k + 1) ++ putS (P.drop (k + 1)) x) := by
            show _ = _
            rw [unhide hR, unhide hd, putS_lo (by rw [← unhide HE]; exact hb), unhide htk, List.append_assoc]
            rfl
          have C1 : Hid (∃ lo, Can lo (P.drop (k + 1))) := by obtain ⟨l, h⟩ := unhide hC; rw [unhide hd] at h; exact ⟨_, h.2.2⟩
          have G1 : Hid (Agr4 (P.drop (k + 1)) x) := by obtain ⟨l, h⟩ := unhide hC; have g := unhide hG; rw [unhide hd] at h g; exact agr_tail h g
          clear hR hC hG hX hB HC0 HC1 hd htk HE HQ HEN hb'
          go_wp2
          exact ⟨⟨k + 1, by omega, by go_num, R1, C1, G1, GX, GB⟩, by simp [intOf]; omega⟩
        · have hb' : decide (e < x.f0) = false := decide_eq_false hb
          have S1 : Hid (∀ q ∈ P.drop k, x.f0 ≤ pE q) := by
            obtain ⟨l, h⟩ := unhide hC
            rw [unhide hd] at h ⊢
            intro s hs
            have e9 := unhide HE
            rcases List.mem_cons.1 hs with rfl | hs
            · omega
            · have h1 := can_lo h.2.2 s hs
              have h2 : pE s = s.f0 + s.f1.size := rfl
              omega
          clear hX hB HC0 HC1 hd htk HE HQ HEN hb'
          go_wp2
          go_meet
          exact ⟨k, hk, rfl, hR, hC, hG, S1, GX, GB⟩
      · obtain rfl : k = P.length := by omega
        have hnk : ¬ (P.length : Int) < (P.length : Int) := by omega
        have hnk' : decide ((P.length : Int) < (P.length : Int)) = false := decide_eq_false hnk
        have S1 : Hid (∀ q ∈ P.drop P.length, x.f0 ≤ pE q) := fun q hq => by rw [List.drop_length] at hq; cases hq
        go_upto_region 4 with fail
        refine wp_region_noPanic ?_
        refine wp_region_held_drew (S := fun V => Below W1.heap.size W1 V) (by kernel_rfl) ((Below.refl _ _).drew) (fun hHeld => ?_)
        refine wpAnyH_take (i := 0) (v := ?_) rfl (by kernel_rfl) (by kernel_rfl) (by kernel_rfl) (fun _ _ _ h => h) (Or.inl ⟨by rfl, ?_⟩) hHeld ?_
        rotate_left
        · intro V hSw; go_simp; rfl
        try simp only [Act.put, List.getElem_toArray, List.getElem_cons_zero, List.setIfInBounds_toArray, List.set_cons_zero, List.set_cons_succ]
        refine wpAnyH_take (i := 1) (v := ?_) rfl (by kernel_rfl) (by kernel_rfl) (by kernel_rfl) (fun _ _ _ h => h) (Or.inl ⟨by rfl, ?_⟩) hHeld ?_
        rotate_left
        · intro V hSw; go_simp; rfl
        try simp only [Act.put, List.getElem_toArray, List.getElem_cons_succ, List.getElem_cons_zero, List.setIfInBounds_toArray, List.set_cons_zero, List.set_cons_succ]
        refine wpAnyH_take (i := 2) (v := ?_) rfl (by kernel_rfl) (by kernel_rfl) (by kernel_rfl) (fun _ _ _ h => h) (Or.inl ⟨by rfl, ?_⟩) hHeld ?_
        rotate_left
        · intro V hSw; go_simp; rfl
        try simp only [Act.put, List.getElem_toArray, List.getElem_cons_succ, List.getElem_cons_zero, List.setIfInBounds_toArray, List.set_cons_zero, List.set_cons_succ]
        refine wpAnyH_take (i := 3) (v := ?_) rfl (by kernel_rfl) (by kernel_rfl) (by kernel_rfl) (fun _ _ _ h => h) (Or.inl ⟨by rfl, ?_⟩) hHeld ?_
        rotate_left
        · intro V hSw; go_simp; rfl
        try simp only [Act.put, List.getElem_toArray, List.getElem_cons_succ, List.getElem_cons_zero, List.setIfInBounds_toArray, List.set_cons_zero, List.set_cons_succ]
        refine wpAnyH_take (i := 4) (v := ?_) rfl (by kernel_rfl) (by kernel_rfl) (by kernel_rfl) (fun _ _ _ h => h) (Or.inl ⟨by rfl, ?_⟩) hHeld ?_
        rotate_left
        · intro V hSw; go_simp; rfl
        try simp only [Act.put, List.getElem_toArray, List.getElem_cons_succ, List.getElem_cons_zero, List.setIfInBounds_toArray, List.set_cons_zero, List.set_cons_succ]
        refine wpAnyH_take (i := 5) (v := undef) rfl (by kernel_rfl) (by kernel_rfl) (by kernel_rfl) (fun _ _ _ h => h) (Or.inr ⟨by rfl, rfl⟩) hHeld ?_
        try simp only [Act.put, List.getElem_toArray, List.getElem_cons_succ, List.getElem_cons_zero, List.setIfInBounds_toArray, List.set_cons_zero, List.set_cons_succ]
        refine wpAnyH_take (i := 6) (v := undef) rfl (by kernel_rfl) (by kernel_rfl) (by kernel_rfl) (fun _ _ _ h => h) (Or.inr ⟨by rfl, rfl⟩) hHeld ?_
        try simp only [Act.put, List.getElem_toArray, List.getElem_cons_succ, List.getElem_cons_zero, List.setIfInBounds_toArray, List.set_cons_zero, List.set_cons_succ]
        refine wpAnyH_take (i := 7) (v := undef) rfl (by kernel_rfl) (by kernel_rfl) (by kernel_rfl) (fun _ _ _ h => h) (Or.inr ⟨by rfl, rfl⟩) hHeld ?_
        try simp only [Act.put, List.getElem_toArray, List.getElem_cons_succ, List.getElem_cons_zero, List.setIfInBounds_toArray, List.set_cons_zero, List.set_cons_succ]
        refine wpAnyH_take (i := 8) (v := undef) rfl (by kernel_rfl) (by kernel_rfl) (by kernel_rfl) (fun _ _ _ h => h) (Or.inr ⟨by rfl, rfl⟩) hHeld ?_
        try simp only [Act.put, List.getElem_toArray, List.getElem_cons_succ, List.getElem_cons_zero, List.setIfInBounds_toArray, List.set_cons_zero, List.set_cons_succ]
        refine wpAnyH_take (i := 9) (v := undef) rfl (by kernel_rfl) (by kernel_rfl) (by kernel_rfl) (fun _ _ _ h => h) (Or.inr ⟨by rfl, rfl⟩) hHeld ?_
        try simp only [Act.put, List.getElem_toArray, List.getElem_cons_succ, List.getElem_cons_zero, List.setIfInBounds_toArray, List.set_cons_zero, List.set_cons_succ]
        refine wpAnyH_take (i := 10) (v := undef) rfl (by kernel_rfl) (by kernel_rfl) (by kernel_rfl) (fun _ _ _ h => h) (Or.inr ⟨by rfl, rfl⟩) hHeld ?_
        try simp only [Act.put, List.getElem_toArray, List.getElem_cons_succ, List.getElem_cons_zero, List.setIfInBounds_toArray, List.set_cons_zero, List.set_cons_succ]
        refine wpAnyH_take (i := 11) (v := undef) rfl (by kernel_rfl) (by kernel_rfl) (by kernel_rfl) (fun _ _ _ h => h) (Or.inr ⟨by rfl, rfl⟩) hHeld ?_
        try simp only [Act.put, List.getElem_toArray, List.getElem_cons_succ, List.getElem_cons_zero, List.setIfInBounds_toArray, List.set_cons_zero, List.set_cons_succ]
        refine wpAnyH_take (i := 12) (v := undef) rfl (by kernel_rfl) (by kernel_rfl) (by kernel_rfl) (fun _ _ _ h => h) (Or.inr ⟨by rfl, rfl⟩) hHeld ?_
        try simp only [Act.put, List.getElem_toArray, List.getElem_cons_succ, List.getElem_cons_zero, List.setIfInBounds_toArray, List.set_cons_zero, List.set_cons_succ]
        refine wpAnyH_take (i := 13) (v := ?_) rfl (by kernel_rfl) (by kernel_rfl) (by kernel_rfl) (fun _ _ _ h => h) (Or.inl ⟨by rfl, ?_⟩) hHeld ?_
        rotate_left
        · intro V hSw; go_simp; rfl
        try simp only [Act.put, List.getElem_toArray, List.getElem_cons_succ, List.getElem_cons_zero, List.setIfInBounds_toArray, List.set_cons_zero, List.set_cons_succ]
        refine wpAnyH_done (by kernel_rfl) ?_ _
        refine NoPanic.normal ?_
        have GX := hide ((unhide hX).below hHeld)
        have GB := hide ((unhide hB).trans (hHeld.mono (unhide hB).size))
        clear hHeld hX hB
        go_wp2
        go_meet
        exact ⟨P.length, hk, rfl, hR, hC, hG, S1, GX, GB⟩
  case rest =>
  obtain ⟨f, hf, rfl, hR, hC, hG, hS1, A1, B1⟩ := hcut
  clear R0 C0 G0 A0 B0 x0 x0l
  have I0 := hide (show W2I P R f f x from ⟨unhide hR, unhide HX, unhide hC, unhide hG, unhide hS1⟩)
  clear hR hC hG hS1 HX
  go_upto_block 2 with fail
  go_cut [6] (fun s6 wx => ∃ (t : Nat) (p : PieceD), s6 = .int .i64 t ∧ t ≤ P.length ∧ Hid (R = P.take f ++ [p] ++ P.drop t) ∧ Hid (Bx wx W.heap.size (pieceC p)) ∧ Hid (Below W.heap.size W wx))
  case first =>
    go_wp2_with fail
    go_loopw [6] (fun v6 wr => ∃ (t : Nat) (p : PieceD), t ≤ P.length ∧ v6 = .int .i64 t ∧ Hid (W2I P R f t p) ∧ Hid (Bx wr W.heap.size (pieceC p)) ∧ Hid (Below W.heap.size W wr)) (fun v6 _ => P.length - (intOf v6).toNat)
    case atStart => exact ⟨f, x, hf, rfl, I0, A1, B1⟩
    case round =>
      obtain ⟨t, p, ht, rfl, hI, hX, hB⟩ := hrel
      clear I0 A1 B1
      obtain ⟨W1, hW1⟩ : ∃ V, V = wr := ⟨_, rfl⟩
      subst hW1
      have lp := (unhide hI).low
      have HEN := hide (fun W => implEnd p W (by have := lp.1; omega) (by have := lp.2; unfold pE at this; omega) (by have := lp.1; have := lp.2; unfold pE at this; omega))
      by_cases hlt : t < P.length
      · rcases unhide HR W1 (unhide hB) with h9 | ⟨b, oo, rfl, hbl, hel⟩
        · rw [h9] at hlt; exact absurd hlt (Nat.not_lt_zero _)
        have HC0 := hide (fun V (b : Below W1.heap.size W1 V) => (b.cell (p := ⟨_, oo + t * 2, none⟩) (Nat.lt_of_lt_of_le hbl (Nat.le_refl _))).trans (piece_r0 hel hlt))
        have HC1 := hide (fun V (b : Below W1.heap.size W1 V) => (b.cell (p := ⟨_, oo + t * 2 + 1, none⟩) (Nat.lt_of_lt_of_le hbl (Nat.le_refl _))).trans (piece_r1 hel hlt))
        have lq := unhide HL _ (gt_mem pieceK P t hlt)
        have STEP : Hid ((gt pieceK P t).f0 ≤ pE p → W2I P R f (t + 1) (unP p (gt pieceK P t))) := fun h => w2_step (unhide hI) hlt (unhide HL) h
        have STOP : Hid (¬ (gt pieceK P t).f0 ≤ pE p → R = P.take f ++ [p] ++ P.drop t) := fun h => w2_stop (unhide hI) hlt h
        generalize gt pieceK P t = q at *
        have HUN := hide (fun W => implUn p q W lp lq)
        have hnk : (t : Int) < (P.length : Int) := by omega
        have hk0' : (0 : Int) ≤ (t : Int) := by omega
        obtain ⟨e, he⟩ : ∃ e, e = pE p := ⟨_, rfl⟩
        rw [← he] at HEN STEP STOP
        clear hel lq he lp hI
        go_upto_region 7 with fail
        refine wp_region_noPanic ?_
        refine wp_region_held_drew (S := fun V => Below W1.heap.size W1 V) (by kernel_rfl) ((Below.refl _ _).drew) (fun hHeld => ?_)
        refine wpAnyH_take (i := 0) (v := ?_) rfl (by kernel_rfl) (by kernel_rfl) (by kernel_rfl) (fun _ _ _ h => h) (Or.inl ⟨by rfl, ?_⟩) hHeld ?_
        rotate_left
        · intro V hSw; have y1 := (Bx.below (unhide hX) hSw).cv; have y2 := (Bx.below (unhide hX) hSw).lt; have z0 := unhide HC0 V hSw; have z1 := unhide HC1 V hSw; have z2 := Nat.lt_of_lt_of_le hbl hSw.size; go_simp; rfl
        try simp only [Act.put, List.getElem_toArray, List.getElem_cons_zero, List.setIfInBounds_toArray, List.set_cons_zero, List.set_cons_succ]
        refine wpAnyH_take (i := 1) (v := ?_) rfl (by kernel_rfl) (by kernel_rfl) (by kernel_rfl) (fun _ _ _ h => h) (Or.inl ⟨by rfl, ?_⟩) hHeld ?_
        rotate_left
        · intro V hSw; have y1 := (Bx.below (unhide hX) hSw).cv; have y2 := (Bx.below (unhide hX) hSw).lt; have z0 := unhide HC0 V hSw; have z1 := unhide HC1 V hSw; have z2 := Nat.lt_of_lt_of_le hbl hSw.size; go_simp; rfl
        try simp only [Act.put, List.getElem_toArray, List.getElem_cons_succ, List.getElem_cons_zero, List.setIfInBounds_toArray, List.set_cons_zero, List.set_cons_succ]
        refine wpAnyH_take (i := 2) (v := ?_) rfl (by kernel_rfl) (by kernel_rfl) (by kernel_rfl) (fun _ _ _ h => h) (Or.inl ⟨by rfl, ?_⟩) hHeld ?_
        rotate_left
        · intro V hSw; have y1 := (Bx.below (unhide hX) hSw).cv; have y2 := (Bx.below (unhide hX) hSw).lt; have z0 := unhide HC0 V hSw; have z1 := unhide HC1 V hSw; have z2 := Nat.lt_of_lt_of_le hbl hSw.size; go_simp; rfl
        try simp only [Act.put, List.getElem_toArray, List.getElem_cons_succ, List.getElem_cons_zero, List.setIfInBounds_toArray, List.set_cons_zero, List.set_cons_succ]
        refine wpAnyH_take (i := 3) (v := ?_) rfl (by kernel_rfl) (by kernel_rfl) (by kernel_rfl) (fun _ _ _ h => h) (Or.inl ⟨by rfl, ?_⟩) hHeld ?_
        rotate_left
        · intro V hSw; have y1 := (Bx.below (unhide hX) hSw).cv; have y2 := (Bx.below (unhide hX) hSw).lt; have z0 := unhide HC0 V hSw; have z1 := unhide HC1 V hSw; have z2 := Nat.lt_of_lt_of_le hbl hSw.size; go_simp; rfl
        try simp only [Act.put, List.getElem_toArray, List.getElem_cons_succ, List.getElem_cons_zero, List.setIfInBounds_toArray, List.set_cons_zero, List.set_cons_succ]
        refine wpAnyH_take (i := 4) (v := ?_) rfl (by kernel_rfl) (by kernel_rfl) (by kernel_rfl) (fun _ _ _ h => h) (Or.inl ⟨by rfl, ?_⟩) hHeld ?_
        rotate_left
        · intro V hSw; have y1 := (Bx.below (unhide hX) hSw).cv; have y2 := (Bx.below (unhide hX) hSw).lt; have z0 := unhide HC0 V hSw; have z1 := unhide HC1 V hSw; have z2 := Nat.lt_of_lt_of_le hbl hSw.size; go_simp; rfl
        try simp only [Act.put, List.getElem_toArray, List.getElem_cons_succ, List.getElem_cons_zero, List.setIfInBounds_toArray, List.set_cons_zero, List.set_cons_succ]
        refine wpAnyH_take (i := 5) (v := ?_) rfl (by kernel_rfl) (by kernel_rfl) (by kernel_rfl) (fun _ _ _ h => h) (Or.inl ⟨by rfl, ?_⟩) hHeld ?_
        rotate_left
        · intro V hSw; have y1 := (Bx.below (unhide hX) hSw).cv; have y2 := (Bx.below (unhide hX) hSw).lt; have z0 := unhide HC0 V hSw; have z1 := unhide HC1 V hSw; have z2 := Nat.lt_of_lt_of_le hbl hSw.size; go_simp; rfl
        try simp only [Act.put, List.getElem_toArray, List.getElem_cons_succ, List.getElem_cons_zero, List.setIfInBounds_toArray, List.set_cons_zero, List.set_cons_succ]
        refine wpAnyH_take (i := 6) (v := ?_) rfl (by kernel_rfl) (by kernel_rfl) (by kernel_rfl) (fun _ _ _ h => h) (Or.inl ⟨by rfl, ?_⟩) hHeld ?_
        rotate_left
        · intro V hSw; have y1 := (Bx.below (unhide hX) hSw).cv; have y2 := (Bx.below (unhide hX) hSw).lt; have z0 := unhide HC0 V hSw; have z1 := unhide HC1 V hSw; have z2 := Nat.lt_of_lt_of_le hbl hSw.size; go_simp; rfl
        try simp only [Act.put, List.getElem_toArray, List.getElem_cons_succ, List.getElem_cons_zero, List.setIfInBounds_toArray, List.set_cons_zero, List.set_cons_succ]
        refine wpAnyH_take (i := 7) (v := ?_) rfl (by kernel_rfl) (by kernel_rfl) (by kernel_rfl) (fun _ _ _ h => h) (Or.inl ⟨by rfl, ?_⟩) hHeld ?_
        rotate_left
        · intro V hSw; have y1 := (Bx.below (unhide hX) hSw).cv; have y2 := (Bx.below (unhide hX) hSw).lt; have z0 := unhide HC0 V hSw; have z1 := unhide HC1 V hSw; have z2 := Nat.lt_of_lt_of_le hbl hSw.size; go_simp; rfl
        try simp only [Act.put, List.getElem_toArray, List.getElem_cons_succ, List.getElem_cons_zero, List.setIfInBounds_toArray, List.set_cons_zero, List.set_cons_succ]
        refine wpAnyH_take (i := 8) (v := ?_) rfl (by kernel_rfl) (by kernel_rfl) (by kernel_rfl) (fun _ _ _ h => h) (Or.inl ⟨by rfl, ?_⟩) hHeld ?_
        rotate_left
        · intro V hSw; have y1 := (Bx.below (unhide hX) hSw).cv; have y2 := (Bx.below (unhide hX) hSw).lt; have z0 := unhide HC0 V hSw; have z1 := unhide HC1 V hSw; have z2 := Nat.lt_of_lt_of_le hbl hSw.size; go_simp; rfl
        try simp only [Act.put, List.getElem_toArray, List.getElem_cons_succ, List.getElem_cons_zero, List.setIfInBounds_toArray, List.set_cons_zero, List.set_cons_succ]
        refine wpAnyH_take (i := 9) (v := ?_) rfl (by kernel_rfl) (by kernel_rfl) (by kernel_rfl) (fun _ _ _ h => h) (Or.inl ⟨by rfl, ?_⟩) hHeld ?_
        rotate_left
        · intro V hSw; have y1 := (Bx.below (unhide hX) hSw).cv; have y2 := (Bx.below (unhide hX) hSw).lt; have z0 := unhide HC0 V hSw; have z1 := unhide HC1 V hSw; have z2 := Nat.lt_of_lt_of_le hbl hSw.size; go_simp; rfl
        try simp only [Act.put, List.getElem_toArray, List.getElem_cons_succ, List.getElem_cons_zero, List.setIfInBounds_toArray, List.set_cons_zero, List.set_cons_succ]
        refine wpAnyH_take (i := 10) (v := ?_) rfl (by kernel_rfl) (by kernel_rfl) (by kernel_rfl) (fun _ _ _ h => h) (Or.inl ⟨by rfl, ?_⟩) hHeld ?_
        rotate_left
        · intro V hSw; have y1 := (Bx.below (unhide hX) hSw).cv; have y2 := (Bx.below (unhide hX) hSw).lt; have z0 := unhide HC0 V hSw; have z1 := unhide HC1 V hSw; have z2 := Nat.lt_of_lt_of_le hbl hSw.size; go_simp; rfl
        try simp only [Act.put, List.getElem_toArray, List.getElem_cons_succ, List.getElem_cons_zero, List.setIfInBounds_toArray, List.set_cons_zero, List.set_cons_succ]
        refine wpAnyH_ready (rs := [11]) (by kernel_rfl) (by simp) ?_
        refine (AllReadyH.cons rfl (fun K hK => ?_) AllReadyH.nil)
        go_simp
        go_at_call 42
        refine (unhide HEN _).mono ?_
        rintro e w4 ⟨rfl, b4⟩
        refine hK.out _ _ (hHeld.trans (b4.mono hHeld.size)) (fun hHeld => ?_)
        clear hK K
        try simp only [Act.put, List.getElem_toArray, List.getElem_cons_succ, List.getElem_cons_zero, List.setIfInBounds_toArray, List.set_cons_zero, List.set_cons_succ]
        clear b4
        refine wpAnyH_take (i := 12) (v := ?_) rfl (by kernel_rfl) (by kernel_rfl) (by kernel_rfl) (fun _ _ _ h => h) (Or.inl ⟨by rfl, ?_⟩) hHeld ?_
        rotate_left
        · intro V hSw; go_simp; rfl
        try simp only [Act.put, List.getElem_toArray, List.getElem_cons_succ, List.getElem_cons_zero, List.setIfInBounds_toArray, List.set_cons_zero, List.set_cons_succ]
        refine wpAnyH_take (i := 13) (v := ?_) rfl (by kernel_rfl) (by kernel_rfl) (by kernel_rfl) (fun _ _ _ h => h) (Or.inl ⟨by rfl, ?_⟩) hHeld ?_
        rotate_left
        · intro V hSw; go_simp; rfl
        try simp only [Act.put, List.getElem_toArray, List.getElem_cons_succ, List.getElem_cons_zero, List.setIfInBounds_toArray, List.set_cons_zero, List.set_cons_succ]
        refine wpAnyH_done (by kernel_rfl) ?_ _
        refine NoPanic.normal ?_
        have GX := hide ((unhide hX).below hHeld)
        have GB := hide ((unhide hB).trans (hHeld.mono (unhide hB).size))
        have HC0b := hide (fun V (b : Below w4.heap.size w4 V) => unhide HC0 V (hHeld.trans (b.mono hHeld.size)))
        have HC1b := hide (fun V (b : Below w4.heap.size w4 V) => unhide HC1 V (hHeld.trans (b.mono hHeld.size)))
        have hblb := Nat.lt_of_lt_of_le hbl hHeld.size
        clear hHeld HC0 HC1 hX hB
        by_cases hb : q.f0 ≤ e
        · have hb' : decide (q.f0 ≤ e) = true := decide_eq_true hb
          have wk : IntKind.i64.wrap ((t : Int) + 1) = ((t + 1 : Nat) : Int) := by rw [IntKind.wrap_i64]; omega
          have I1 := hide (unhide STEP hb)
          generalize unP p q = u at *
          clear STEP STOP hb' HEN
          go_upto_region 8 with fail
          obtain ⟨W5, hW5⟩ : ∃ V, V = w4 := ⟨_, rfl⟩
          subst hW5
          have y1 := (unhide GX).cv
          have y1f := (unhide GX).fz
          have y2 := (unhide GX).lt
          have z0 := unhide HC0b _ (Below.refl _ _)
          have z1 := unhide HC1b _ (Below.refl _ _)
          have HT1 : Hid (t + 1 ≤ P.length) := hlt
          go_region_law (go_simp; go_at_call 51; (with_reducible refine (unhide HUN _).mono ?_); rintro e5 w5 ⟨rfl, b5⟩; have X5 := hide ((unhide GX).drew.below b5); have B5 := hide ((unhide GB).drew.trans (b5.mono (unhide GB).drew.size)); have v1 := (unhide X5).cv; have v1f := (unhide X5).fz; have v1l := (unhide X5).lt; clear b5 y1 y1f y2 z0 z1)
          all_goals
            have F2 := hide (st2f (unhide X5) (.int .i64 u.f0) (.string u.f1))
            have B6 := hide ((unhide B5).trans ((unhide F2).2.below (base := W.heap.size) (unhide B5).size (fun q hq => by omega)))
            clear v1 v1f v1l
            go_wp2
            exact ⟨⟨t + 1, u, unhide HT1, by go_num, I1, (unhide F2).1, unhide B6⟩, by simp [intOf]; have := unhide HT1; omega⟩
        · have hb' : decide (q.f0 ≤ e) = false := decide_eq_false hb
          have R9 := hide (unhide STOP hb)
          clear STEP STOP hb' HEN HUN HC0b HC1b
          go_wp2
          go_meet
          exact ⟨t, p, rfl, ht, R9, GX, GB⟩
      · obtain rfl : t = P.length := by omega
        have R9 := hide (w2_all (unhide hI))
        have hnk : ¬ (P.length : Int) < (P.length : Int) := by omega
        have hnk' : decide ((P.length : Int) < (P.length : Int)) = false := decide_eq_false hnk
        clear hI HEN lp
        go_upto_region 7 with fail
        refine wp_region_noPanic ?_
        refine wp_region_held_drew (S := fun V => Below W1.heap.size W1 V) (by kernel_rfl) ((Below.refl _ _).drew) (fun hHeld => ?_)
        refine wpAnyH_take (i := 0) (v := ?_) rfl (by kernel_rfl) (by kernel_rfl) (by kernel_rfl) (fun _ _ _ h => h) (Or.inl ⟨by rfl, ?_⟩) hHeld ?_
        rotate_left
        · intro V hSw; go_simp; rfl
        try simp only [Act.put, List.getElem_toArray, List.getElem_cons_zero, List.setIfInBounds_toArray, List.set_cons_zero, List.set_cons_succ]
        refine wpAnyH_take (i := 1) (v := ?_) rfl (by kernel_rfl) (by kernel_rfl) (by kernel_rfl) (fun _ _ _ h => h) (Or.inl ⟨by rfl, ?_⟩) hHeld ?_
        rotate_left
        · intro V hSw; go_simp; rfl
        try simp only [Act.put, List.getElem_toArray, List.getElem_cons_succ, List.getElem_cons_zero, List.setIfInBounds_toArray, List.set_cons_zero, List.set_cons_succ]
        refine wpAnyH_take (i := 2) (v := ?_) rfl (by kernel_rfl) (by kernel_rfl) (by kernel_rfl) (fun _ _ _ h => h) (Or.inl ⟨by rfl, ?_⟩) hHeld ?_
        rotate_left
        · intro V hSw; go_simp; rfl
        try simp only [Act.put, List.getElem_toArray, List.getElem_cons_succ, List.getElem_cons_zero, List.setIfInBounds_toArray, List.set_cons_zero, List.set_cons_succ]
        refine wpAnyH_take (i := 3) (v := ?_) rfl (by kernel_rfl) (by kernel_rfl) (by kernel_rfl) (fun _ _ _ h => h) (Or.inl ⟨by rfl, ?_⟩) hHeld ?_
        rotate_left
        · intro V hSw; go_simp; rfl
        try simp only [Act.put, List.getElem_toArray, List.getElem_cons_succ, List.getElem_cons_zero, List.setIfInBounds_toArray, List.set_cons_zero, List.set_cons_succ]
        refine wpAnyH_take (i := 4) (v := ?_) rfl (by kernel_rfl) (by kernel_rfl) (by kernel_rfl) (fun _ _ _ h => h) (Or.inl ⟨by rfl, ?_⟩) hHeld ?_
        rotate_left
        · intro V hSw; go_simp; rfl
        try simp only [Act.put, List.getElem_toArray, List.getElem_cons_succ, List.getElem_cons_zero, List.setIfInBounds_toArray, List.set_cons_zero, List.set_cons_succ]
        refine wpAnyH_take (i := 5) (v := undef) rfl (by kernel_rfl) (by kernel_rfl) (by kernel_rfl) (fun _ _ _ h => h) (Or.inr ⟨by rfl, rfl⟩) hHeld ?_
        try simp only [Act.put, List.getElem_toArray, List.getElem_cons_succ, List.getElem_cons_zero, List.setIfInBounds_toArray, List.set_cons_zero, List.set_cons_succ]
        refine wpAnyH_take (i := 6) (v := undef) rfl (by kernel_rfl) (by kernel_rfl) (by kernel_rfl) (fun _ _ _ h => h) (Or.inr ⟨by rfl, rfl⟩) hHeld ?_
        try simp only [Act.put, List.getElem_toArray, List.getElem_cons_succ, List.getElem_cons_zero, List.setIfInBounds_toArray, List.set_cons_zero, List.set_cons_succ]
        refine wpAnyH_take (i := 7) (v := undef) rfl (by kernel_rfl) (by kernel_rfl) (by kernel_rfl) (fun _ _ _ h => h) (Or.inr ⟨by rfl, rfl⟩) hHeld ?_
        try simp only [Act.put, List.getElem_toArray, List.getElem_cons_succ, List.getElem_cons_zero, List.setIfInBounds_toArray, List.set_cons_zero, List.set_cons_succ]
        refine wpAnyH_take (i := 8) (v := undef) rfl (by kernel_rfl) (by kernel_rfl) (by kernel_rfl) (fun _ _ _ h => h) (Or.inr ⟨by rfl, rfl⟩) hHeld ?_
        try simp only [Act.put, List.getElem_toArray, List.getElem_cons_succ, List.getElem_cons_zero, List.setIfInBounds_toArray, List.set_cons_zero, List.set_cons_succ]
        refine wpAnyH_take (i := 9) (v := undef) rfl (by kernel_rfl) (by kernel_rfl) (by kernel_rfl) (fun _ _ _ h => h) (Or.inr ⟨by rfl, rfl⟩) hHeld ?_
        try simp only [Act.put, List.getElem_toArray, List.getElem_cons_succ, List.getElem_cons_zero, List.setIfInBounds_toArray, List.set_cons_zero, List.set_cons_succ]
        refine wpAnyH_take (i := 10) (v := undef) rfl (by kernel_rfl) (by kernel_rfl) (by kernel_rfl) (fun _ _ _ h => h) (Or.inr ⟨by rfl, rfl⟩) hHeld ?_
        try simp only [Act.put, List.getElem_toArray, List.getElem_cons_succ, List.getElem_cons_zero, List.setIfInBounds_toArray, List.set_cons_zero, List.set_cons_succ]
        refine wpAnyH_take (i := 11) (v := undef) rfl (by kernel_rfl) (by kernel_rfl) (by kernel_rfl) (fun _ _ _ h => h) (Or.inr ⟨by rfl, rfl⟩) hHeld ?_
        try simp only [Act.put, List.getElem_toArray, List.getElem_cons_succ, List.getElem_cons_zero, List.setIfInBounds_toArray, List.set_cons_zero, List.set_cons_succ]
        refine wpAnyH_take (i := 12) (v := undef) rfl (by kernel_rfl) (by kernel_rfl) (by kernel_rfl) (fun _ _ _ h => h) (Or.inr ⟨by rfl, rfl⟩) hHeld ?_
        try simp only [Act.put, List.getElem_toArray, List.getElem_cons_succ, List.getElem_cons_zero, List.setIfInBounds_toArray, List.set_cons_zero, List.set_cons_succ]
        refine wpAnyH_take (i := 13) (v := ?_) rfl (by kernel_rfl) (by kernel_rfl) (by kernel_rfl) (fun _ _ _ h => h) (Or.inl ⟨by rfl, ?_⟩) hHeld ?_
        rotate_left
        · intro V hSw; go_simp; rfl
        try simp only [Act.put, List.getElem_toArray, List.getElem_cons_succ, List.getElem_cons_zero, List.setIfInBounds_toArray, List.set_cons_zero, List.set_cons_succ]
        refine wpAnyH_done (by kernel_rfl) ?_ _
        refine NoPanic.normal ?_
        have GX := hide ((unhide hX).below hHeld)
        have GB := hide ((unhide hB).trans (hHeld.mono (unhide hB).size))
        clear hHeld hX hB
        go_wp2
        go_meet
        exact ⟨P.length, p, rfl, Nat.le_refl _, R9, GX, GB⟩
  case rest =>
  obtain ⟨t, p, rfl, ht, R9, A2, B2⟩ := hcut
  clear I0 A1 B1
  have R10 := unhide HR wc (unhide B2)
  obtain ⟨W2, hW2⟩ : ∃ V, V = wc := ⟨_, rfl⟩
  subst hW2
  have ef : (P.take f).length = f := by rw [List.length_take]; omega
  have et : (P.drop t).length = P.length - t := List.length_drop
  rcases unhide HS with ⟨b, oo, rfl, hlc⟩ | ⟨rfl, rfl, h0⟩
  · have HCON : Hid (∀ V vb g, Below W2.heap.size W2 V → Bx V vb [.slice (some ⟨b, oo, none⟩) f c, .slice (some ⟨g, 0, none⟩) 1 1, .slice (if c = t then some ⟨b, oo, none⟩ else some ⟨b, oo + t * 2, none⟩) (P.length - t) (c - t)] → Bx V g (pieceC p) → Calls Try.prog 52 #[.slice (some ⟨vb, 0, none⟩) 3 3] V fun e w' => ∃ v, e = .returned v ∧ Ro pieceK 53 V.heap.size w' v R ∧ Below V.heap.size V w') := by
      intro V vb g hb hv hg
      have h1 : Rd pieceK V (some ⟨b, oo, none⟩) (P.take f) := (R10.takeL f).below hb
      have h3 : Rd pieceK V (if c = t then some ⟨b, oo, none⟩ else some ⟨b, oo + t * 2, none⟩) (P.drop t) := by
        split
        · exact Or.inl (List.drop_eq_nil_of_le (by omega))
        · exact (R10.dropL t ht).below hb
      have h2 : Rd pieceK V (some ⟨g, 0, none⟩) [p] := rd_one hg
      have h := implConcat vb (P.take f) [p] (P.drop t) _ _ _ c 1 (c - t) V (by rw [ef, et]; exact hv) h1 h2 h3 (by simp; omega) (by rw [ef]; omega) (by simp) (by rw [et]; omega)
      rw [← unhide R9] at h
      exact h
    have d1 : (0 : Int) ≤ (f : Int) := by omega
    have d2 : (f : Int) ≤ (c : Int) := by omega
    have d3 : (0 : Int) ≤ (t : Int) := by omega
    have d4 : (t : Int) ≤ (P.length : Int) := by omega
    have d5 : (P.length : Int) ≤ (c : Int) := by omega
    have d6 : ((f : Int)).toNat = f := rfl
    have d7 : ((t : Int)).toNat = t := rfl
    have d8 : ((P.length : Int)).toNat = P.length := rfl
    unfold maxLen at hcm
    have q1 : IntKind.i64.wrap (f : Int) = (f : Int) := by rw [IntKind.wrap_i64]; omega
    have q2 : IntKind.i64.wrap (t : Int) = (t : Int) := by rw [IntKind.wrap_i64]; omega
    clear R10 R9 ef et HR HL HS hcm hlc hf ht
    go_upto_region 10 with fail
    refine wp_region_noPanic ?_
    refine wp_region_held_drew (S := fun V => Below W2.heap.size W2 V) (by kernel_rfl) ((Below.refl _ _).drew) (fun hHeld => ?_)
    refine wpAnyH_take (i := 0) (v := ?_) rfl (by kernel_rfl) (by kernel_rfl) (by kernel_rfl) (fun _ _ _ h => h) (Or.inl ⟨by rfl, ?_⟩) hHeld ?_
    rotate_left
    · intro V hSw; have y1 := (Bx.below (unhide A2) hSw).cv; have y2 := (Bx.below (unhide A2) hSw).lt; go_simp; rfl
    try simp only [Act.put, List.getElem_toArray, List.getElem_cons_zero, List.setIfInBounds_toArray, List.set_cons_zero, List.set_cons_succ]
    refine wpAnyH_take (i := 1) (v := ?_) rfl (by kernel_rfl) (by kernel_rfl) (by kernel_rfl) (fun _ _ _ h => h) (Or.inl ⟨by rfl, ?_⟩) hHeld ?_
    rotate_left
    · intro V hSw; have y1 := (Bx.below (unhide A2) hSw).cv; have y2 := (Bx.below (unhide A2) hSw).lt; go_simp; rfl
    try simp only [Act.put, List.getElem_toArray, List.getElem_cons_succ, List.getElem_cons_zero, List.setIfInBounds_toArray, List.set_cons_zero, List.set_cons_succ]
    refine wpAnyH_take (i := 2) (v := ?_) rfl (by kernel_rfl) (by kernel_rfl) (by kernel_rfl) (fun _ _ _ h => h) (Or.inl ⟨by rfl, ?_⟩) hHeld ?_
    rotate_left
    · intro V hSw; have y1 := (Bx.below (unhide A2) hSw).cv; have y2 := (Bx.below (unhide A2) hSw).lt; go_simp; rfl
    try simp only [Act.put, List.getElem_toArray, List.getElem_cons_succ, List.getElem_cons_zero, List.setIfInBounds_toArray, List.set_cons_zero, List.set_cons_succ]
    refine wpAnyH_take (i := 3) (v := ?_) rfl (by kernel_rfl) (by kernel_rfl) (by kernel_rfl) (fun _ _ _ h => h) (Or.inl ⟨by rfl, ?_⟩) hHeld ?_
    rotate_left
    · intro V hSw; have y1 := (Bx.below (unhide A2) hSw).cv; have y2 := (Bx.below (unhide A2) hSw).lt; go_simp; rfl
    try simp only [Act.put, List.getElem_toArray, List.getElem_cons_succ, List.getElem_cons_zero, List.setIfInBounds_toArray, List.set_cons_zero, List.set_cons_succ]
    refine wpAnyH_take (i := 5) (v := ?_) rfl (by kernel_rfl) (by kernel_rfl) (by kernel_rfl) (fun _ _ _ h => h) (Or.inl ⟨by rfl, ?_⟩) hHeld ?_
    rotate_left
    · intro V hSw; have y1 := (Bx.below (unhide A2) hSw).cv; have y2 := (Bx.below (unhide A2) hSw).lt; go_simp; rfl
    try simp only [Act.put, List.getElem_toArray, List.getElem_cons_succ, List.getElem_cons_zero, List.setIfInBounds_toArray, List.set_cons_zero, List.set_cons_succ]
    refine wpAnyH_take (i := 6) (v := ?_) rfl (by kernel_rfl) (by kernel_rfl) (by kernel_rfl) (fun _ _ _ h => h) (Or.inl ⟨by rfl, ?_⟩) hHeld ?_
    rotate_left
    · intro V hSw; have y1 := (Bx.below (unhide A2) hSw).cv; have y2 := (Bx.below (unhide A2) hSw).lt; go_simp; rfl
    try simp only [Act.put, List.getElem_toArray, List.getElem_cons_succ, List.getElem_cons_zero, List.setIfInBounds_toArray, List.set_cons_zero, List.set_cons_succ]
    refine wpAnyH_take (i := 7) (v := ?_) rfl (by kernel_rfl) (by kernel_rfl) (by kernel_rfl) (fun _ _ _ h => h) (Or.inl ⟨by rfl, ?_⟩) hHeld ?_
    rotate_left
    · intro V hSw; have y1 := (Bx.below (unhide A2) hSw).cv; have y2 := (Bx.below (unhide A2) hSw).lt; go_simp; rfl
    try simp only [Act.put, List.getElem_toArray, List.getElem_cons_succ, List.getElem_cons_zero, List.setIfInBounds_toArray, List.set_cons_zero, List.set_cons_succ]
    obtain ⟨U0, hU0⟩ : ∃ U, U = W2.drew := ⟨_, rfl⟩
    rw [← hU0] at hHeld ⊢
    clear hU0
    refine wpAnyH_ready (rs := [4]) (by kernel_rfl) (by simp) ?_
    refine (AllReadyH.cons rfl (fun K hK => ?_) AllReadyH.nil)
    go_simp
    obtain ⟨U1, hU⟩ : ∃ U, U = U0.alloc (.cells #[.int .i64 p.f0, .string p.f1] 53) := ⟨_, rfl⟩
    have bU : Below U0.heap.size U0 U1 := by rw [hU]; exact (Below.refl _ _).alloc (Nat.le_refl _) _
    have BG := hide (show Bx U1 U0.heap.size (pieceC p) by rw [hU]; exact Bx.new U0 _ _)
    rw [← hU]
    refine hK.out _ _ (hHeld.trans (bU.mono hHeld.size)) (fun hHeld => ?_)
    clear hK K
    try simp only [Act.put, List.getElem_toArray, List.getElem_cons_succ, List.getElem_cons_zero, List.setIfInBounds_toArray, List.set_cons_zero, List.set_cons_succ]
    clear hU bU
    refine wpAnyH_ready (rs := [8]) (by kernel_rfl) (by simp) ?_
    refine (AllReadyH.cons rfl (fun K hK => ?_) AllReadyH.nil)
    go_simp
    obtain ⟨U2, hU⟩ : ∃ U, U = U1.alloc (.cells #[.slice (some ⟨b, oo, none⟩) f c, .slice (some ⟨U0.heap.size, 0, none⟩) 1 1, .slice (if c = t then some ⟨b, oo, none⟩ else some ⟨b, oo + t * 2, none⟩) (P.length - t) (c - t)] 37) := ⟨_, rfl⟩
    have bU : Below U1.heap.size U1 U2 := by rw [hU]; exact (Below.refl _ _).alloc (Nat.le_refl _) _
    have BV := hide (show Bx U2 U1.heap.size [.slice (some ⟨b, oo, none⟩) f c, .slice (some ⟨U0.heap.size, 0, none⟩) 1 1, .slice (if c = t then some ⟨b, oo, none⟩ else some ⟨b, oo + t * 2, none⟩) (P.length - t) (c - t)] by rw [hU]; exact Bx.new U1 _ _)
    replace BG := hide ((unhide BG).below bU)
    rw [← hU]
    refine hK.out _ _ (hHeld.trans (bU.mono hHeld.size)) (fun hHeld => ?_)
    clear hK K
    try simp only [Act.put, List.getElem_toArray, List.getElem_cons_succ, List.getElem_cons_zero, List.setIfInBounds_toArray, List.set_cons_zero, List.set_cons_succ]
    clear hU bU
    refine wpAnyH_ready (rs := [9]) (by kernel_rfl) (by simp) ?_
    refine (AllReadyH.cons rfl (fun K hK => ?_) AllReadyH.nil)
    go_simp
    go_at_call 52
    refine (unhide HCON _ _ _ hHeld (unhide BV) (unhide BG)).mono ?_
    rintro e5 w5 ⟨v5, rfl, o5, b5⟩
    have O5 := hide (Ro.mono o5 (base' := W.heap.size) (Nat.le_trans (unhide B2).size hHeld.size))
    clear o5
    refine hK.out _ _ (hHeld.trans (b5.mono hHeld.size)) (fun hHeld => ?_)
    clear hK K
    try simp only [Act.put, List.getElem_toArray, List.getElem_cons_succ, List.getElem_cons_zero, List.setIfInBounds_toArray, List.set_cons_zero, List.set_cons_succ]
    clear b5
    refine wpAnyH_take (i := 10) (v := ?_) rfl (by kernel_rfl) (by kernel_rfl) (by kernel_rfl) (fun _ _ _ h => h) (Or.inl ⟨by rfl, ?_⟩) hHeld ?_
    rotate_left
    · intro V hSw; go_simp; rfl
    try simp only [Act.put, List.getElem_toArray, List.getElem_cons_succ, List.getElem_cons_zero, List.setIfInBounds_toArray, List.set_cons_zero, List.set_cons_succ]
    refine wpAnyH_done (by kernel_rfl) ?_ _
    refine NoPanic.normal ?_
    have B9 := hide ((unhide B2).trans (hHeld.mono (unhide B2).size))
    clear hHeld
    go_wp2
    all_goals
      go_ret
      exact ⟨_, rfl, unhide O5, unhide B9⟩
  · have hP : P = [] := List.length_eq_zero_iff.1 h0
    have HCON : Hid (∀ V vb g, Below W2.heap.size W2 V → Bx V vb [.slice none 0 0, .slice (some ⟨g, 0, none⟩) 1 1, .slice none 0 0] → Bx V g (pieceC p) → Calls Try.prog 52 #[.slice (some ⟨vb, 0, none⟩) 3 3] V fun e w' => ∃ v, e = .returned v ∧ Ro pieceK 53 V.heap.size w' v R ∧ Below V.heap.size V w') := by
      intro V vb g hb hv hg
      have h2 : Rd pieceK V (some ⟨g, 0, none⟩) [p] := rd_one hg
      have h := implConcat vb [] [p] [] none _ none 0 1 0 V hv (Or.inl rfl) h2 (Or.inl rfl) (by simp) (by simp) (by simp) (by simp)
      have e9 : R = [] ++ [p] ++ [] := by rw [unhide R9, hP]; simp
      rw [e9]
      exact h
    obtain rfl : f = 0 := by omega
    obtain rfl : t = 0 := by omega
    rw [h0]
    clear R10 R9 ef et HR HL HS hcm hf ht h0 hP
    go_upto_region 10 with fail
    refine wp_region_noPanic ?_
    refine wp_region_held_drew (S := fun V => Below W2.heap.size W2 V) (by kernel_rfl) ((Below.refl _ _).drew) (fun hHeld => ?_)
    refine wpAnyH_take (i := 0) (v := ?_) rfl (by kernel_rfl) (by kernel_rfl) (by kernel_rfl) (fun _ _ _ h => h) (Or.inl ⟨by rfl, ?_⟩) hHeld ?_
    rotate_left
    · intro V hSw; have y1 := (Bx.below (unhide A2) hSw).cv; have y2 := (Bx.below (unhide A2) hSw).lt; go_simp; rfl
    try simp only [Act.put, List.getElem_toArray, List.getElem_cons_zero, List.setIfInBounds_toArray, List.set_cons_zero, List.set_cons_succ]
    refine wpAnyH_take (i := 1) (v := ?_) rfl (by kernel_rfl) (by kernel_rfl) (by kernel_rfl) (fun _ _ _ h => h) (Or.inl ⟨by rfl, ?_⟩) hHeld ?_
    rotate_left
    · intro V hSw; have y1 := (Bx.below (unhide A2) hSw).cv; have y2 := (Bx.below (unhide A2) hSw).lt; go_simp; rfl
    try simp only [Act.put, List.getElem_toArray, List.getElem_cons_succ, List.getElem_cons_zero, List.setIfInBounds_toArray, List.set_cons_zero, List.set_cons_succ]
    refine wpAnyH_take (i := 2) (v := ?_) rfl (by kernel_rfl) (by kernel_rfl) (by kernel_rfl) (fun _ _ _ h => h) (Or.inl ⟨by rfl, ?_⟩) hHeld ?_
    rotate_left
    · intro V hSw; have y1 := (Bx.below (unhide A2) hSw).cv; have y2 := (Bx.below (unhide A2) hSw).lt; go_simp; rfl
    try simp only [Act.put, List.getElem_toArray, List.getElem_cons_succ, List.getElem_cons_zero, List.setIfInBounds_toArray, List.set_cons_zero, List.set_cons_succ]
    refine wpAnyH_take (i := 3) (v := ?_) rfl (by kernel_rfl) (by kernel_rfl) (by kernel_rfl) (fun _ _ _ h => h) (Or.inl ⟨by rfl, ?_⟩) hHeld ?_
    rotate_left
    · intro V hSw; have y1 := (Bx.below (unhide A2) hSw).cv; have y2 := (Bx.below (unhide A2) hSw).lt; go_simp; rfl
    try simp only [Act.put, List.getElem_toArray, List.getElem_cons_succ, List.getElem_cons_zero, List.setIfInBounds_toArray, List.set_cons_zero, List.set_cons_succ]
    refine wpAnyH_take (i := 5) (v := ?_) rfl (by kernel_rfl) (by kernel_rfl) (by kernel_rfl) (fun _ _ _ h => h) (Or.inl ⟨by rfl, ?_⟩) hHeld ?_
    rotate_left
    · intro V hSw; have y1 := (Bx.below (unhide A2) hSw).cv; have y2 := (Bx.below (unhide A2) hSw).lt; go_simp; rfl
    try simp only [Act.put, List.getElem_toArray, List.getElem_cons_succ, List.getElem_cons_zero, List.setIfInBounds_toArray, List.set_cons_zero, List.set_cons_succ]
    refine wpAnyH_take (i := 6) (v := ?_) rfl (by kernel_rfl) (by kernel_rfl) (by kernel_rfl) (fun _ _ _ h => h) (Or.inl ⟨by rfl, ?_⟩) hHeld ?_
    rotate_left
    · intro V hSw; have y1 := (Bx.below (unhide A2) hSw).cv; have y2 := (Bx.below (unhide A2) hSw).lt; go_simp; rfl
    try simp only [Act.put, List.getElem_toArray, List.getElem_cons_succ, List.getElem_cons_zero, List.setIfInBounds_toArray, List.set_cons_zero, List.set_cons_succ]
    refine wpAnyH_take (i := 7) (v := ?_) rfl (by kernel_rfl) (by kernel_rfl) (by kernel_rfl) (fun _ _ _ h => h) (Or.inl ⟨by rfl, ?_⟩) hHeld ?_
    rotate_left
    · intro V hSw; have y1 := (Bx.below (unhide A2) hSw).cv; have y2 := (Bx.below (unhide A2) hSw).lt; go_simp; rfl
    try simp only [Act.put, List.getElem_toArray, List.getElem_cons_succ, List.getElem_cons_zero, List.setIfInBounds_toArray, List.set_cons_zero, List.set_cons_succ]
    obtain ⟨U0, hU0⟩ : ∃ U, U = W2.drew := ⟨_, rfl⟩
    rw [← hU0] at hHeld ⊢
    clear hU0
    refine wpAnyH_ready (rs := [4]) (by kernel_rfl) (by simp) ?_
    refine (AllReadyH.cons rfl (fun K hK => ?_) AllReadyH.nil)
    go_simp
    obtain ⟨U1, hU⟩ : ∃ U, U = U0.alloc (.cells #[.int .i64 p.f0, .string p.f1] 53) := ⟨_, rfl⟩
    have bU : Below U0.heap.size U0 U1 := by rw [hU]; exact (Below.refl _ _).alloc (Nat.le_refl _) _
    have BG := hide (show Bx U1 U0.heap.size (pieceC p) by rw [hU]; exact Bx.new U0 _ _)
    rw [← hU]
    refine hK.out _ _ (hHeld.trans (bU.mono hHeld.size)) (fun hHeld => ?_)
    clear hK K
    try simp only [Act.put, List.getElem_toArray, List.getElem_cons_succ, List.getElem_cons_zero, List.setIfInBounds_toArray, List.set_cons_zero, List.set_cons_succ]
    clear hU bU
    refine wpAnyH_ready (rs := [8]) (by kernel_rfl) (by simp) ?_
    refine (AllReadyH.cons rfl (fun K hK => ?_) AllReadyH.nil)
    go_simp
    obtain ⟨U2, hU⟩ : ∃ U, U = U1.alloc (.cells #[.slice none 0 0, .slice (some ⟨U0.heap.size, 0, none⟩) 1 1, .slice none 0 0] 37) := ⟨_, rfl⟩
    have bU : Below U1.heap.size U1 U2 := by rw [hU]; exact (Below.refl _ _).alloc (Nat.le_refl _) _
    have BV := hide (show Bx U2 U1.heap.size [.slice none 0 0, .slice (some ⟨U0.heap.size, 0, none⟩) 1 1, .slice none 0 0] by rw [hU]; exact Bx.new U1 _ _)
    replace BG := hide ((unhide BG).below bU)
    rw [← hU]
    refine hK.out _ _ (hHeld.trans (bU.mono hHeld.size)) (fun hHeld => ?_)
    clear hK K
    try simp only [Act.put, List.getElem_toArray, List.getElem_cons_succ, List.getElem_cons_zero, List.setIfInBounds_toArray, List.set_cons_zero, List.set_cons_succ]
    clear hU bU
    refine wpAnyH_ready (rs := [9]) (by kernel_rfl) (by simp) ?_
    refine (AllReadyH.cons rfl (fun K hK => ?_) AllReadyH.nil)
    go_simp
    go_at_call 52
    refine (unhide HCON _ _ _ hHeld (unhide BV) (unhide BG)).mono ?_
    rintro e5 w5 ⟨v5, rfl, o5, b5⟩
    have O5 := hide (Ro.mono o5 (base' := W.heap.size) (Nat.le_trans (unhide B2).size hHeld.size))
    clear o5
    refine hK.out _ _ (hHeld.trans (b5.mono hHeld.size)) (fun hHeld => ?_)
    clear hK K
    try simp only [Act.put, List.getElem_toArray, List.getElem_cons_succ, List.getElem_cons_zero, List.setIfInBounds_toArray, List.set_cons_zero, List.set_cons_succ]
    clear b5
    refine wpAnyH_take (i := 10) (v := ?_) rfl (by kernel_rfl) (by kernel_rfl) (by kernel_rfl) (fun _ _ _ h => h) (Or.inl ⟨by rfl, ?_⟩) hHeld ?_
    rotate_left
    · intro V hSw; go_simp; rfl
    try simp only [Act.put, List.getElem_toArray, List.getElem_cons_succ, List.getElem_cons_zero, List.setIfInBounds_toArray, List.set_cons_zero, List.set_cons_succ]
    refine wpAnyH_done (by kernel_rfl) ?_ _
    refine NoPanic.normal ?_
    have B9 := hide ((unhide B2).trans (hHeld.mono (unhide B2).size))
    clear hHeld
    go_wp2
    all_goals
      go_ret
      exact ⟨_, rfl, unhide O5, unhide B9⟩
end Go.Proofs.Ytmicpknilhiliaa.Rc
