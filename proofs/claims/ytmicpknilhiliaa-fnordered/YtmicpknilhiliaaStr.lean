/-
  Contracts: what is read of a stream, of the model.
-/
import Derived.Test.YtmicpknilhiliaaStv
namespace Go.Proofs.Ytmicpknilhiliaa.Rc
open Go.ChangeShapes Go.WideShapes Go.ChangeAt Go.RowKit Go.Deep
set_option linter.unusedVariables false
set_option maxRecDepth 100000

/-- how many bytes go -/
def rdN (p : PieceD) (most : Int) : Nat := if most < p.f1.size then most.toNat else p.f1.size
/-- what is left, and what was read -/
def rdL (D : InflowD) (p : PieceD) (P : List PieceD) (n : Nat) : InflowD := ⟨D.li, D.re + n, D.fi, if n = p.f1.size then P else ⟨D.re + n, p.f1.extract n p.f1.size⟩ :: P⟩
def rdE (D : InflowD) (most : Int) : InflowD := match D.P with
  | [] => D
  | p :: P => if p.f0 = D.re ∧ most ≠ 0 then rdL D p P (rdN p most) else D
def rdO (D : InflowD) (most : Int) : ByteArray := match D.P with
  | [] => ⟨#[]⟩
  | p :: P => if p.f0 = D.re ∧ most ≠ 0 then p.f1.extract 0 (rdN p most) else ⟨#[]⟩
def RDQ (E : InflowD) (s : ByteArray) (W : World) (e : Ending) (w' : World) : Prop :=
  ∃ (a' : Option Addr) (c' : Nat), e = .returned (.tuple #[inflowV E a' c', .string s]) ∧ Rd pieceK w' a' E.P ∧ (∀ b o t, a' = some ⟨b, o, t⟩ → W.heap.size + 2 ≤ b) ∧ Below W.heap.size W w'
theorem cl_two (x : PieceD) (P : List PieceD) (q : Nat) : cl pieceK (x :: P) (2 + q) = cl pieceK P q := by
  unfold cl
  change (pieceK.f (gt pieceK (x :: P) ((2 + q) / 2))).getD ((2 + q) % 2) _ = (pieceK.f (gt pieceK P (q / 2))).getD (q % 2) _
  rw [show (2 + q) / 2 = q / 2 + 1 by omega, show (2 + q) % 2 = q % 2 by omega]
  rfl
theorem cl_skip (x y : PieceD) (P : List PieceD) (q : Nat) (h : 2 ≤ q) : cl pieceK (x :: P) q = cl pieceK (y :: P) q := by
  obtain ⟨r, rfl⟩ : ∃ r, q = 2 + r := ⟨q - 2, by omega⟩
  rw [cl_two, cl_two]
def Bx' (V : World) (g : Nat) (i : Nat) (u : Value) (j : Nat) (v : Value) : Prop :=
  ((V.setCell ⟨g, 0, none⟩ u).setCell ⟨g, 1, none⟩ v).drew.cell? ⟨g, 0, none⟩ = some u ∧ ((V.setCell ⟨g, 0, none⟩ u).setCell ⟨g, 1, none⟩ v).drew.cell? ⟨g, 1, none⟩ = some v ∧ ∀ q, q ≠ 0 → q ≠ 1 → ((V.setCell ⟨g, 0, none⟩ u).setCell ⟨g, 1, none⟩ v).drew.cell? ⟨g, q, none⟩ = V.cell? ⟨g, q, none⟩
theorem bx_two (V : World) (g : Nat) (u v : Value) {p0 p1 : Value} (h0 : V.cell? ⟨g, 0, none⟩ = some p0) (h1 : V.cell? ⟨g, 1, none⟩ = some p1) : Bx' V g 0 u 1 v := by
  have n01 : ∀ a b : Nat, a ≠ b → (⟨g, a, none⟩ : Addr) ≠ ⟨g, b, none⟩ := fun a b h e => by injection e with _ e2 _; exact h e2
  have d : ∀ (w : World) (p : Addr), w.drew.cell? p = w.cell? p := fun w p => rfl
  refine ⟨?_, ?_, fun q q0 q1 => ?_⟩
  · rw [d, World.cell?_setCell_other _ _ _ _ (n01 1 0 (by decide)), World.cell?_setCell_same _ _ _ h0]
  · rw [d, World.cell?_setCell_same _ _ _ ((World.cell?_setCell_other _ _ _ _ (n01 0 1 (by decide))).trans h1)]
  · rw [d, World.cell?_setCell_other _ _ _ _ (n01 1 q (fun e => q1 e.symm)), World.cell?_setCell_other _ _ _ _ (n01 0 q (fun e => q0 e.symm))]
theorem Ro.blkx {α : Type} {K : Kd α} {e : TypeId} {base : Nat} {w : World} {a : Option Addr} {n c : Nat} {L : List α} (h : Ro K e base w (.slice a n c) L) : ∀ b o t, a = some ⟨b, o, t⟩ → base ≤ b := by
  intro b o t ha
  rcases h.2 with ⟨e0, _⟩ | ⟨g, cap, cur, e0, hg, _⟩
  · injection e0 with e1
    rw [ha] at e1
    cases e1
  · injection e0 with e1
    rw [ha] at e1
    injection e1 with e1
    injection e1 with e2
    omega
theorem Rd.ro {w : World} {base : Nat} {a : Option Addr} {n c : Nat} {L : List PieceD} (h : Ro pieceK 53 base w (.slice a n c) L) : Rd pieceK w a L := h.rix.1.rd
set_option maxHeartbeats 16000000 in
theorem specRd (D : InflowD) (a : Option Addr) (c : Nat) (most : Int) (W : World) (hm : 0 ≤ most) (hm' : most ≤ 4000) (r0 : 0 ≤ D.re) (r1 : D.re ≤ 4000) (okn : D.P.length ≤ 1048576) (hz : ∀ p ∈ D.P, p.f1.size ≤ 1099511627776) (h : Rd pieceK W a D.P) :
    Calls Try.prog 21 #[inflowV D a c, .int .i64 most] W (RDQ (rdE D most) (rdO D most) W) := by
  obtain ⟨V0, hV0⟩ : ∃ V, V = (W.alloc (.cells (inflowC D a c).toArray 39)).alloc (.cells #[.int .i64 0, .int .i64 0, .int .i64 0, .slice none 0 0] 39) := ⟨_, rfl⟩
  have B0 := hide (show Below W.heap.size W V0 by rw [hV0]; exact ((Below.refl W.heap.size W).alloc (Nat.le_refl _) _).alloc (by simp) _)
  have A0 := hide (show Bx V0 W.heap.size (inflowC D a c) by rw [hV0]; exact (Bx.new W _ _).alloc _)
  have Z0 := hide (show Bx V0 (W.heap.size + 1) [.int .i64 0, .int .i64 0, .int .i64 0, .slice none 0 0] by rw [hV0]; exact Bx.newAt (W.alloc _) _ _ _ (by simp))
  have HV0 := hide hV0
  have R0 := hide (h.below (unhide B0))
  have HZ := hide hz
  have a0 := (unhide A0).cv
  have a0l := (unhide A0).lt
  have s0 := (unhide Z0).lt
  clear hV0 h hz
  go_enter Try.func21, Try.ntmps21
  go_upto_region 1 with fail
  rw [← unhide HV0]
  clear HV0
  go_wp2_with fail
  refine (specOw D a c _ okn (unhide R0)).mono ?_
  rintro e w2 ⟨a2, c2, rfl, o2, b2⟩
  obtain ⟨V3, hV3⟩ : ∃ V, V = (((w2.setCell ⟨W.heap.size, 0, none⟩ (.int .i64 D.li)).setCell ⟨W.heap.size, 1, none⟩ (.int .i64 D.re)).setCell ⟨W.heap.size, 2, none⟩ (.int .i64 D.fi)).setCell ⟨W.heap.size, 3, none⟩ (.slice a2 D.P.length c2) := ⟨_, rfl⟩
  have k3 : Kq (fun q => q = W.heap.size) w2 V3 := by rw [hV3]; exact (((((Kq.refl (fun q => q = W.heap.size) w2).set rfl).set rfl).set rfl).set rfl)
  have A2 := (unhide A0).below b2
  have a2x := A2.cv
  have a2f := A2.fz
  have a2l := A2.lt
  have A3 := hide (show Bx V3 W.heap.size (inflowC D a2 c2) by rw [hV3]; exact (((A2.set (i := 0) (by simp)).set (i := 1) (by simp)).set (i := 2) (by simp)).set (i := 3) (by simp))
  have Z2 := (unhide Z0).below b2
  have Z3 := hide (Z2.kept k3.size (k3.block _ Z2.lt (by omega)))
  have sB0 := (unhide B0).size
  have O3 := hide (Ro.mono (base' := W.heap.size + 2) (o2.kq k3 (fun q hq => by omega)) (by omega))
  have B3 := hide (((unhide B0).trans (b2.mono sB0)).trans (k3.below (base := W.heap.size) (by have := b2.size; omega) (fun q hq => by omega)))
  have HV3 := hide hV3
  clear hV3 k3 A2 Z2 o2 b2 A0 Z0 R0 B0 a0 a0l
  go_upto_region 2 with fail
  rw [← unhide HV3]
  clear HV3 a2x a2f a2l
  have a3 := (unhide A3).cv
  have a3l := (unhide A3).lt
  have z3 := (unhide Z3).cv
  have z3f := (unhide Z3).fz
  have z3l := (unhide Z3).lt
  have s3 := (unhide B3).size
  have FIN : Hid (∀ U, Kq (fun q => q = W.heap.size + 1) V3 U → RDQ D ⟨#[]⟩ W (.returned (.tuple #[.agg #[.int .i64 D.li, .int .i64 D.re, .int .i64 D.fi, .slice a2 D.P.length c2], .string ⟨#[]⟩])) U) := fun U k => ⟨a2, c2, rfl, Rd.ro ((unhide O3).kq k (fun q hq => by omega)), (unhide O3).blkx, (unhide B3).trans (k.below (base := W.heap.size) s3 (fun q hq => by omega))⟩
  cases hP : D.P with
  | nil =>
    have e1 : rdE D most = D := by unfold rdE; rw [hP]
    have e2 : rdO D most = ⟨#[]⟩ := by unfold rdO; rw [hP]
    have E1 := hide e1
    have E2 := hide e2
    have h0 : D.P.length = 0 := by rw [hP]; rfl
    have t0 : (((D.P.length : Nat) : Int) == 0) = true := by rw [h0]; rfl
    clear e1 e2 hP h0
    have FN := hide (fun U k => unhide FIN U k)
    clear FIN O3 B3 HZ
    refine wp_region_noPanic ?_
    refine wp_region_held_drew (S := fun V => Below V3.heap.size V3 V) (by kernel_rfl) ((Below.refl _ _).drew) (fun hHeld => ?_)
    refine wpAnyH_take (i := 0) (v := ?_) rfl (by kernel_rfl) (by kernel_rfl) (by kernel_rfl) (fun _ _ _ h => h) (Or.inl ⟨by rfl, ?_⟩) hHeld ?_
    rotate_left
    · intro V hSw; have y1 := (Bx.below (unhide A3) hSw).cv; have y2 := (Bx.below (unhide A3) hSw).lt; go_simp; rfl
    try simp only [Act.put, List.getElem_toArray, List.getElem_cons_zero, List.setIfInBounds_toArray, List.set_cons_zero, List.set_cons_succ]
    refine wpAnyH_take (i := 1) (v := ?_) rfl (by kernel_rfl) (by kernel_rfl) (by kernel_rfl) (fun _ _ _ h => h) (Or.inl ⟨by rfl, ?_⟩) hHeld ?_
    rotate_left
    · intro V hSw; have y1 := (Bx.below (unhide A3) hSw).cv; have y2 := (Bx.below (unhide A3) hSw).lt; go_simp; rfl
    try simp only [Act.put, List.getElem_toArray, List.getElem_cons_succ, List.getElem_cons_zero, List.setIfInBounds_toArray, List.set_cons_zero, List.set_cons_succ]
    refine wpAnyH_take (i := 2) (v := ?_) rfl (by kernel_rfl) (by kernel_rfl) (by kernel_rfl) (fun _ _ _ h => h) (Or.inl ⟨by rfl, ?_⟩) hHeld ?_
    rotate_left
    · intro V hSw; go_simp; rfl
    try simp only [Act.put, List.getElem_toArray, List.getElem_cons_succ, List.getElem_cons_zero, List.setIfInBounds_toArray, List.set_cons_zero, List.set_cons_succ]
    refine wpAnyH_take (i := 3) (v := ?_) rfl (by kernel_rfl) (by kernel_rfl) (by kernel_rfl) (fun _ _ _ h => h) (Or.inl ⟨by rfl, ?_⟩) hHeld ?_
    rotate_left
    · intro V hSw; go_simp; rfl
    try simp only [Act.put, List.getElem_toArray, List.getElem_cons_succ, List.getElem_cons_zero, List.setIfInBounds_toArray, List.set_cons_zero, List.set_cons_succ]
    refine wpAnyH_take (i := 4) (v := ?_) rfl (by kernel_rfl) (by kernel_rfl) (by kernel_rfl) (fun _ _ _ h => h) (Or.inl ⟨by rfl, ?_⟩) hHeld ?_
    rotate_left
    · intro V hSw; go_simp; rfl
    try simp only [Act.put, List.getElem_toArray, List.getElem_cons_succ, List.getElem_cons_zero, List.setIfInBounds_toArray, List.set_cons_zero, List.set_cons_succ]
    refine wpAnyH_take (i := 5) (v := undef) rfl (by kernel_rfl) (by kernel_rfl) (by kernel_rfl) (fun _ _ _ h => h) (Or.inr ⟨by rfl, rfl⟩) hHeld ?_
    try simp only [Act.put, List.getElem_toArray, List.getElem_cons_succ, List.getElem_cons_zero, List.setIfInBounds_toArray, List.set_cons_zero, List.set_cons_succ]
    refine wpAnyH_take (i := 6) (v := undef) rfl (by kernel_rfl) (by kernel_rfl) (by kernel_rfl) (fun _ _ _ h => h) (Or.inr ⟨by rfl, rfl⟩) hHeld ?_
    try simp only [Act.put, List.getElem_toArray, List.getElem_cons_succ, List.getElem_cons_zero, List.setIfInBounds_toArray, List.set_cons_zero, List.set_cons_succ]
    refine wpAnyH_take (i := 7) (v := undef) rfl (by kernel_rfl) (by kernel_rfl) (by kernel_rfl) (fun _ _ _ h => h) (Or.inr ⟨by rfl, rfl⟩) hHeld ?_
    try simp only [Act.put, List.getElem_toArray, List.getElem_cons_succ, List.getElem_cons_zero, List.setIfInBounds_toArray, List.set_cons_zero, List.set_cons_succ]
    refine wpAnyH_take (i := 8) (v := undef) rfl (by kernel_rfl) (by kernel_rfl) (by kernel_rfl) (fun _ _ _ h => h) (Or.inr ⟨by rfl, rfl⟩) hHeld ?_
    try simp only [Act.put, List.getElem_toArray, List.getElem_cons_succ, List.getElem_cons_zero, List.setIfInBounds_toArray, List.set_cons_zero, List.set_cons_succ]
    refine wpAnyH_take (i := 9) (v := undef) rfl (by kernel_rfl) (by kernel_rfl) (by kernel_rfl) (fun _ _ _ h => h) (Or.inr ⟨by rfl, rfl⟩) hHeld ?_
    try simp only [Act.put, List.getElem_toArray, List.getElem_cons_succ, List.getElem_cons_zero, List.setIfInBounds_toArray, List.set_cons_zero, List.set_cons_succ]
    refine wpAnyH_take (i := 10) (v := undef) rfl (by kernel_rfl) (by kernel_rfl) (by kernel_rfl) (fun _ _ _ h => h) (Or.inr ⟨by rfl, rfl⟩) hHeld ?_
    try simp only [Act.put, List.getElem_toArray, List.getElem_cons_succ, List.getElem_cons_zero, List.setIfInBounds_toArray, List.set_cons_zero, List.set_cons_succ]
    refine wpAnyH_take (i := 11) (v := undef) rfl (by kernel_rfl) (by kernel_rfl) (by kernel_rfl) (fun _ _ _ h => h) (Or.inr ⟨by rfl, rfl⟩) hHeld ?_
    try simp only [Act.put, List.getElem_toArray, List.getElem_cons_succ, List.getElem_cons_zero, List.setIfInBounds_toArray, List.set_cons_zero, List.set_cons_succ]
    refine wpAnyH_take (i := 12) (v := undef) rfl (by kernel_rfl) (by kernel_rfl) (by kernel_rfl) (fun _ _ _ h => h) (Or.inr ⟨by rfl, rfl⟩) hHeld ?_
    try simp only [Act.put, List.getElem_toArray, List.getElem_cons_succ, List.getElem_cons_zero, List.setIfInBounds_toArray, List.set_cons_zero, List.set_cons_succ]
    refine wpAnyH_take (i := 13) (v := ?_) rfl (by kernel_rfl) (by kernel_rfl) (by kernel_rfl) (fun _ _ _ h => h) (Or.inl ⟨by rfl, ?_⟩) hHeld ?_
    rotate_left
    · intro V hSw; go_simp; rfl
    try simp only [Act.put, List.getElem_toArray, List.getElem_cons_succ, List.getElem_cons_zero, List.setIfInBounds_toArray, List.set_cons_zero, List.set_cons_succ]
    refine wpAnyH_take (i := 14) (v := ?_) rfl (by kernel_rfl) (by kernel_rfl) (by kernel_rfl) (fun _ _ _ h => h) (Or.inl ⟨by rfl, ?_⟩) hHeld ?_
    rotate_left
    · intro V hSw; go_simp; rfl
    try simp only [Act.put, List.getElem_toArray, List.getElem_cons_succ, List.getElem_cons_zero, List.setIfInBounds_toArray, List.set_cons_zero, List.set_cons_succ]
    refine wpAnyH_take (i := 15) (v := undef) rfl (by kernel_rfl) (by kernel_rfl) (by kernel_rfl) (fun _ _ _ h => h) (Or.inr ⟨by rfl, rfl⟩) hHeld ?_
    try simp only [Act.put, List.getElem_toArray, List.getElem_cons_succ, List.getElem_cons_zero, List.setIfInBounds_toArray, List.set_cons_zero, List.set_cons_succ]
    refine wpAnyH_take (i := 16) (v := undef) rfl (by kernel_rfl) (by kernel_rfl) (by kernel_rfl) (fun _ _ _ h => h) (Or.inr ⟨by rfl, rfl⟩) hHeld ?_
    try simp only [Act.put, List.getElem_toArray, List.getElem_cons_succ, List.getElem_cons_zero, List.setIfInBounds_toArray, List.set_cons_zero, List.set_cons_succ]
    refine wpAnyH_take (i := 17) (v := ?_) rfl (by kernel_rfl) (by kernel_rfl) (by kernel_rfl) (fun _ _ _ h => h) (Or.inl ⟨by rfl, ?_⟩) hHeld ?_
    rotate_left
    · intro V hSw; go_simp; rfl
    try simp only [Act.put, List.getElem_toArray, List.getElem_cons_succ, List.getElem_cons_zero, List.setIfInBounds_toArray, List.set_cons_zero, List.set_cons_succ]
    refine wpAnyH_done (by kernel_rfl) ?_ _
    refine NoPanic.normal ?_
    clear hHeld
    have b9 : Below V3.heap.size V3 V3.drew := (Below.refl _ _).drew
    have a9 := ((unhide A3).below b9).cv
    have a9l := ((unhide A3).below b9).lt
    have z9 := ((unhide Z3).below b9).cv
    have z9f := ((unhide Z3).below b9).fz
    have z9l := ((unhide Z3).below b9).lt
    have K9 := hide (show Kq (fun q => q = W.heap.size + 1) V3 V3.drew from Kq.of b9)
    obtain ⟨V9, hV9⟩ : ∃ V, V = V3.drew := ⟨_, rfl⟩
    rw [← hV9] at a9 a9l z9 z9f z9l K9 ⊢
    clear b9 hV9 a3 a3l z3 z3f z3l A3 Z3
    go_wp2
    refine bodyPost_ret (v := .tuple #[.agg #[.int .i64 D.li, .int .i64 D.re, .int .i64 D.fi, .slice a2 D.P.length c2], .string ⟨#[]⟩]) (by simp [results, Try.results21, go_sem, z9]) rfl ?_
    show RDQ _ _ _ _ _
    rw [unhide E1, unhide E2]
    refine unhide FN _ ((unhide K9).trans ?_)
    repeat (refine Kq.set ?_ rfl)
    exact Kq.refl _ _
  | cons x P =>
    have hlen : D.P.length = P.length + 1 := by rw [hP]; rfl
    have hl0 : 0 < D.P.length := by omega
    have t0 : (((D.P.length : Nat) : Int) == 0) = false := beq_eq_false_iff_ne.2 (by omega)
    have hcap := (unhide O3).rix.2.1
    rcases (unhide O3).rix.1 with h9 | ⟨g, rfl, ⟨hg0, hg1⟩, hG⟩
    · rw [h9] at hlen; cases hlen
    have hx : gt pieceK D.P 0 = x := by rw [hP]; rfl
    have HG : Hid (∀ V, Below V3.heap.size V3 V → V.cell? ⟨g, 0, none⟩ = some (.int .i64 x.f0) ∧ V.cell? ⟨g, 1, none⟩ = some (.string x.f1) ∧ g < V.heap.size) := fun V b => by
      have c0 := (hG.below b).c 0 (by change 0 < D.P.length * 2; omega)
      have c1 := (hG.below b).c 1 (by change 1 < D.P.length * 2; omega)
      rw [show cl pieceK D.P 0 = .int .i64 x.f0 by have := piece_c0 D.P 0; rw [hx] at this; exact this] at c0
      rw [show cl pieceK D.P 1 = .string x.f1 by have := piece_c1 D.P 0; rw [hx] at this; exact this] at c1
      exact ⟨c0, c1, (hG.below b).lt⟩
    have HGG := hide hG
    have hxz := unhide HZ x (by rw [hP]; exact List.mem_cons_self)
    clear hG hx HZ
    by_cases h1 : x.f0 = D.re
    · have t1 : (x.f0 != D.re) = false := by simp [h1]
      by_cases h2 : most = 0
      · have e1 : rdE D most = D := by unfold rdE; rw [hP]; dsimp only; rw [if_neg (fun h => h.2 h2)]
        have e2 : rdO D most = ⟨#[]⟩ := by unfold rdO; rw [hP]; dsimp only; rw [if_neg (fun h => h.2 h2)]
        have t2 : (most == 0) = true := beq_iff_eq.2 h2
        have E1 := hide e1
        have E2 := hide e2
        have HZ := HG
        clear e1 e2 hP hlen h1 h2
        have FN := hide (fun U k => unhide FIN U k)
        clear FIN O3 B3 HZ
        refine wp_region_noPanic ?_
        refine wp_region_held_drew (S := fun V => Below V3.heap.size V3 V) (by kernel_rfl) ((Below.refl _ _).drew) (fun hHeld => ?_)
        refine wpAnyH_take (i := 0) (v := ?_) rfl (by kernel_rfl) (by kernel_rfl) (by kernel_rfl) (fun _ _ _ h => h) (Or.inl ⟨by rfl, ?_⟩) hHeld ?_
        rotate_left
        · intro V hSw; have y1 := (Bx.below (unhide A3) hSw).cv; have y2 := (Bx.below (unhide A3) hSw).lt; have q0 := (unhide HG _ hSw).1; have q2 := (unhide HG _ hSw).2.2; go_simp; rfl
        try simp only [Act.put, List.getElem_toArray, List.getElem_cons_zero, List.setIfInBounds_toArray, List.set_cons_zero, List.set_cons_succ]
        refine wpAnyH_take (i := 1) (v := ?_) rfl (by kernel_rfl) (by kernel_rfl) (by kernel_rfl) (fun _ _ _ h => h) (Or.inl ⟨by rfl, ?_⟩) hHeld ?_
        rotate_left
        · intro V hSw; have y1 := (Bx.below (unhide A3) hSw).cv; have y2 := (Bx.below (unhide A3) hSw).lt; have q0 := (unhide HG _ hSw).1; have q2 := (unhide HG _ hSw).2.2; go_simp; rfl
        try simp only [Act.put, List.getElem_toArray, List.getElem_cons_succ, List.getElem_cons_zero, List.setIfInBounds_toArray, List.set_cons_zero, List.set_cons_succ]
        refine wpAnyH_take (i := 2) (v := ?_) rfl (by kernel_rfl) (by kernel_rfl) (by kernel_rfl) (fun _ _ _ h => h) (Or.inl ⟨by rfl, ?_⟩) hHeld ?_
        rotate_left
        · intro V hSw; go_simp; rfl
        try simp only [Act.put, List.getElem_toArray, List.getElem_cons_succ, List.getElem_cons_zero, List.setIfInBounds_toArray, List.set_cons_zero, List.set_cons_succ]
        refine wpAnyH_take (i := 3) (v := ?_) rfl (by kernel_rfl) (by kernel_rfl) (by kernel_rfl) (fun _ _ _ h => h) (Or.inl ⟨by rfl, ?_⟩) hHeld ?_
        rotate_left
        · intro V hSw; go_simp; rfl
        try simp only [Act.put, List.getElem_toArray, List.getElem_cons_succ, List.getElem_cons_zero, List.setIfInBounds_toArray, List.set_cons_zero, List.set_cons_succ]
        refine wpAnyH_take (i := 4) (v := ?_) rfl (by kernel_rfl) (by kernel_rfl) (by kernel_rfl) (fun _ _ _ h => h) (Or.inl ⟨by rfl, ?_⟩) hHeld ?_
        rotate_left
        · intro V hSw; go_simp; rfl
        try simp only [Act.put, List.getElem_toArray, List.getElem_cons_succ, List.getElem_cons_zero, List.setIfInBounds_toArray, List.set_cons_zero, List.set_cons_succ]
        refine wpAnyH_take (i := 5) (v := ?_) rfl (by kernel_rfl) (by kernel_rfl) (by kernel_rfl) (fun _ _ _ h => h) (Or.inl ⟨by rfl, ?_⟩) hHeld ?_
        rotate_left
        · intro V hSw; have y1 := (Bx.below (unhide A3) hSw).cv; have y2 := (Bx.below (unhide A3) hSw).lt; have q0 := (unhide HG _ hSw).1; have q2 := (unhide HG _ hSw).2.2; go_simp; rfl
        try simp only [Act.put, List.getElem_toArray, List.getElem_cons_succ, List.getElem_cons_zero, List.setIfInBounds_toArray, List.set_cons_zero, List.set_cons_succ]
        refine wpAnyH_take (i := 6) (v := ?_) rfl (by kernel_rfl) (by kernel_rfl) (by kernel_rfl) (fun _ _ _ h => h) (Or.inl ⟨by rfl, ?_⟩) hHeld ?_
        rotate_left
        · intro V hSw; have y1 := (Bx.below (unhide A3) hSw).cv; have y2 := (Bx.below (unhide A3) hSw).lt; have q0 := (unhide HG _ hSw).1; have q2 := (unhide HG _ hSw).2.2; go_simp; rfl
        try simp only [Act.put, List.getElem_toArray, List.getElem_cons_succ, List.getElem_cons_zero, List.setIfInBounds_toArray, List.set_cons_zero, List.set_cons_succ]
        refine wpAnyH_take (i := 7) (v := ?_) rfl (by kernel_rfl) (by kernel_rfl) (by kernel_rfl) (fun _ _ _ h => h) (Or.inl ⟨by rfl, ?_⟩) hHeld ?_
        rotate_left
        · intro V hSw; have y1 := (Bx.below (unhide A3) hSw).cv; have y2 := (Bx.below (unhide A3) hSw).lt; have q0 := (unhide HG _ hSw).1; have q2 := (unhide HG _ hSw).2.2; go_simp; rfl
        try simp only [Act.put, List.getElem_toArray, List.getElem_cons_succ, List.getElem_cons_zero, List.setIfInBounds_toArray, List.set_cons_zero, List.set_cons_succ]
        refine wpAnyH_take (i := 8) (v := ?_) rfl (by kernel_rfl) (by kernel_rfl) (by kernel_rfl) (fun _ _ _ h => h) (Or.inl ⟨by rfl, ?_⟩) hHeld ?_
        rotate_left
        · intro V hSw; have y1 := (Bx.below (unhide A3) hSw).cv; have y2 := (Bx.below (unhide A3) hSw).lt; have q0 := (unhide HG _ hSw).1; have q2 := (unhide HG _ hSw).2.2; go_simp; rfl
        try simp only [Act.put, List.getElem_toArray, List.getElem_cons_succ, List.getElem_cons_zero, List.setIfInBounds_toArray, List.set_cons_zero, List.set_cons_succ]
        refine wpAnyH_take (i := 9) (v := ?_) rfl (by kernel_rfl) (by kernel_rfl) (by kernel_rfl) (fun _ _ _ h => h) (Or.inl ⟨by rfl, ?_⟩) hHeld ?_
        rotate_left
        · intro V hSw; have y1 := (Bx.below (unhide A3) hSw).cv; have y2 := (Bx.below (unhide A3) hSw).lt; have q0 := (unhide HG _ hSw).1; have q2 := (unhide HG _ hSw).2.2; go_simp; rfl
        try simp only [Act.put, List.getElem_toArray, List.getElem_cons_succ, List.getElem_cons_zero, List.setIfInBounds_toArray, List.set_cons_zero, List.set_cons_succ]
        refine wpAnyH_take (i := 10) (v := ?_) rfl (by kernel_rfl) (by kernel_rfl) (by kernel_rfl) (fun _ _ _ h => h) (Or.inl ⟨by rfl, ?_⟩) hHeld ?_
        rotate_left
        · intro V hSw; have y1 := (Bx.below (unhide A3) hSw).cv; have y2 := (Bx.below (unhide A3) hSw).lt; have q0 := (unhide HG _ hSw).1; have q2 := (unhide HG _ hSw).2.2; go_simp; rfl
        try simp only [Act.put, List.getElem_toArray, List.getElem_cons_succ, List.getElem_cons_zero, List.setIfInBounds_toArray, List.set_cons_zero, List.set_cons_succ]
        refine wpAnyH_take (i := 11) (v := ?_) rfl (by kernel_rfl) (by kernel_rfl) (by kernel_rfl) (fun _ _ _ h => h) (Or.inl ⟨by rfl, ?_⟩) hHeld ?_
        rotate_left
        · intro V hSw; have y1 := (Bx.below (unhide A3) hSw).cv; have y2 := (Bx.below (unhide A3) hSw).lt; have q0 := (unhide HG _ hSw).1; have q2 := (unhide HG _ hSw).2.2; go_simp; rfl
        try simp only [Act.put, List.getElem_toArray, List.getElem_cons_succ, List.getElem_cons_zero, List.setIfInBounds_toArray, List.set_cons_zero, List.set_cons_succ]
        refine wpAnyH_take (i := 12) (v := ?_) rfl (by kernel_rfl) (by kernel_rfl) (by kernel_rfl) (fun _ _ _ h => h) (Or.inl ⟨by rfl, ?_⟩) hHeld ?_
        rotate_left
        · intro V hSw; go_simp; rfl
        try simp only [Act.put, List.getElem_toArray, List.getElem_cons_succ, List.getElem_cons_zero, List.setIfInBounds_toArray, List.set_cons_zero, List.set_cons_succ]
        refine wpAnyH_take (i := 13) (v := ?_) rfl (by kernel_rfl) (by kernel_rfl) (by kernel_rfl) (fun _ _ _ h => h) (Or.inl ⟨by rfl, ?_⟩) hHeld ?_
        rotate_left
        · intro V hSw; go_simp; rfl
        try simp only [Act.put, List.getElem_toArray, List.getElem_cons_succ, List.getElem_cons_zero, List.setIfInBounds_toArray, List.set_cons_zero, List.set_cons_succ]
        refine wpAnyH_take (i := 14) (v := ?_) rfl (by kernel_rfl) (by kernel_rfl) (by kernel_rfl) (fun _ _ _ h => h) (Or.inl ⟨by rfl, ?_⟩) hHeld ?_
        rotate_left
        · intro V hSw; go_simp; rfl
        try simp only [Act.put, List.getElem_toArray, List.getElem_cons_succ, List.getElem_cons_zero, List.setIfInBounds_toArray, List.set_cons_zero, List.set_cons_succ]
        refine wpAnyH_take (i := 15) (v := ?_) rfl (by kernel_rfl) (by kernel_rfl) (by kernel_rfl) (fun _ _ _ h => h) (Or.inl ⟨by rfl, ?_⟩) hHeld ?_
        rotate_left
        · intro V hSw; go_simp; rfl
        try simp only [Act.put, List.getElem_toArray, List.getElem_cons_succ, List.getElem_cons_zero, List.setIfInBounds_toArray, List.set_cons_zero, List.set_cons_succ]
        refine wpAnyH_take (i := 16) (v := ?_) rfl (by kernel_rfl) (by kernel_rfl) (by kernel_rfl) (fun _ _ _ h => h) (Or.inl ⟨by rfl, ?_⟩) hHeld ?_
        rotate_left
        · intro V hSw; go_simp; rfl
        try simp only [Act.put, List.getElem_toArray, List.getElem_cons_succ, List.getElem_cons_zero, List.setIfInBounds_toArray, List.set_cons_zero, List.set_cons_succ]
        refine wpAnyH_take (i := 17) (v := ?_) rfl (by kernel_rfl) (by kernel_rfl) (by kernel_rfl) (fun _ _ _ h => h) (Or.inl ⟨by rfl, ?_⟩) hHeld ?_
        rotate_left
        · intro V hSw; go_simp; rfl
        try simp only [Act.put, List.getElem_toArray, List.getElem_cons_succ, List.getElem_cons_zero, List.setIfInBounds_toArray, List.set_cons_zero, List.set_cons_succ]
        refine wpAnyH_done (by kernel_rfl) ?_ _
        refine NoPanic.normal ?_
        clear hHeld
        have b9 : Below V3.heap.size V3 V3.drew := (Below.refl _ _).drew
        have a9 := ((unhide A3).below b9).cv
        have a9l := ((unhide A3).below b9).lt
        have z9 := ((unhide Z3).below b9).cv
        have z9f := ((unhide Z3).below b9).fz
        have z9l := ((unhide Z3).below b9).lt
        have K9 := hide (show Kq (fun q => q = W.heap.size + 1) V3 V3.drew from Kq.of b9)
        obtain ⟨V9, hV9⟩ : ∃ V, V = V3.drew := ⟨_, rfl⟩
        rw [← hV9] at a9 a9l z9 z9f z9l K9 ⊢
        clear b9 hV9 a3 a3l z3 z3f z3l A3 Z3
        go_wp2
        refine bodyPost_ret (v := .tuple #[.agg #[.int .i64 D.li, .int .i64 D.re, .int .i64 D.fi, .slice (some ⟨g, 0, none⟩) D.P.length c2], .string ⟨#[]⟩]) (by simp [results, Try.results21, go_sem, z9]) rfl ?_
        show RDQ _ _ _ _ _
        rw [unhide E1, unhide E2]
        refine unhide FN _ ((unhide K9).trans ?_)
        repeat (refine Kq.set ?_ rfl)
        exact Kq.refl _ _
      · have t2 : (most == 0) = false := beq_eq_false_iff_ne.2 h2
        have e1 : rdE D most = rdL D x P (rdN x most) := by unfold rdE; rw [hP]; dsimp only; rw [if_pos ⟨h1, h2⟩]
        have e2 : rdO D most = x.f1.extract 0 (rdN x most) := by unfold rdO; rw [hP]; dsimp only; rw [if_pos ⟨h1, h2⟩]
        have E1 := hide e1
        have E2 := hide e2
        have HL := hide hlen
        have HP := hide hP
        clear e1 e2 h1 h2 hlen hP FIN
        refine wp_region_noPanic ?_
        refine wp_region_held_drew (S := fun V => Below V3.heap.size V3 V) (by kernel_rfl) ((Below.refl _ _).drew) (fun hHeld => ?_)
        refine wpAnyH_take (i := 0) (v := ?_) rfl (by kernel_rfl) (by kernel_rfl) (by kernel_rfl) (fun _ _ _ h => h) (Or.inl ⟨by rfl, ?_⟩) hHeld ?_
        rotate_left
        · intro V hSw; have y1 := (Bx.below (unhide A3) hSw).cv; have y2 := (Bx.below (unhide A3) hSw).lt; have q0 := (unhide HG _ hSw).1; have q2 := (unhide HG _ hSw).2.2; go_simp; rfl
        try simp only [Act.put, List.getElem_toArray, List.getElem_cons_zero, List.setIfInBounds_toArray, List.set_cons_zero, List.set_cons_succ]
        refine wpAnyH_take (i := 1) (v := ?_) rfl (by kernel_rfl) (by kernel_rfl) (by kernel_rfl) (fun _ _ _ h => h) (Or.inl ⟨by rfl, ?_⟩) hHeld ?_
        rotate_left
        · intro V hSw; have y1 := (Bx.below (unhide A3) hSw).cv; have y2 := (Bx.below (unhide A3) hSw).lt; have q0 := (unhide HG _ hSw).1; have q2 := (unhide HG _ hSw).2.2; go_simp; rfl
        try simp only [Act.put, List.getElem_toArray, List.getElem_cons_succ, List.getElem_cons_zero, List.setIfInBounds_toArray, List.set_cons_zero, List.set_cons_succ]
        refine wpAnyH_take (i := 2) (v := ?_) rfl (by kernel_rfl) (by kernel_rfl) (by kernel_rfl) (fun _ _ _ h => h) (Or.inl ⟨by rfl, ?_⟩) hHeld ?_
        rotate_left
        · intro V hSw; go_simp; rfl
        try simp only [Act.put, List.getElem_toArray, List.getElem_cons_succ, List.getElem_cons_zero, List.setIfInBounds_toArray, List.set_cons_zero, List.set_cons_succ]
        refine wpAnyH_take (i := 3) (v := ?_) rfl (by kernel_rfl) (by kernel_rfl) (by kernel_rfl) (fun _ _ _ h => h) (Or.inl ⟨by rfl, ?_⟩) hHeld ?_
        rotate_left
        · intro V hSw; go_simp; rfl
        try simp only [Act.put, List.getElem_toArray, List.getElem_cons_succ, List.getElem_cons_zero, List.setIfInBounds_toArray, List.set_cons_zero, List.set_cons_succ]
        refine wpAnyH_take (i := 4) (v := ?_) rfl (by kernel_rfl) (by kernel_rfl) (by kernel_rfl) (fun _ _ _ h => h) (Or.inl ⟨by rfl, ?_⟩) hHeld ?_
        rotate_left
        · intro V hSw; go_simp; rfl
        try simp only [Act.put, List.getElem_toArray, List.getElem_cons_succ, List.getElem_cons_zero, List.setIfInBounds_toArray, List.set_cons_zero, List.set_cons_succ]
        refine wpAnyH_take (i := 5) (v := ?_) rfl (by kernel_rfl) (by kernel_rfl) (by kernel_rfl) (fun _ _ _ h => h) (Or.inl ⟨by rfl, ?_⟩) hHeld ?_
        rotate_left
        · intro V hSw; have y1 := (Bx.below (unhide A3) hSw).cv; have y2 := (Bx.below (unhide A3) hSw).lt; have q0 := (unhide HG _ hSw).1; have q2 := (unhide HG _ hSw).2.2; go_simp; rfl
        try simp only [Act.put, List.getElem_toArray, List.getElem_cons_succ, List.getElem_cons_zero, List.setIfInBounds_toArray, List.set_cons_zero, List.set_cons_succ]
        refine wpAnyH_take (i := 6) (v := ?_) rfl (by kernel_rfl) (by kernel_rfl) (by kernel_rfl) (fun _ _ _ h => h) (Or.inl ⟨by rfl, ?_⟩) hHeld ?_
        rotate_left
        · intro V hSw; have y1 := (Bx.below (unhide A3) hSw).cv; have y2 := (Bx.below (unhide A3) hSw).lt; have q0 := (unhide HG _ hSw).1; have q2 := (unhide HG _ hSw).2.2; go_simp; rfl
        try simp only [Act.put, List.getElem_toArray, List.getElem_cons_succ, List.getElem_cons_zero, List.setIfInBounds_toArray, List.set_cons_zero, List.set_cons_succ]
        refine wpAnyH_take (i := 7) (v := ?_) rfl (by kernel_rfl) (by kernel_rfl) (by kernel_rfl) (fun _ _ _ h => h) (Or.inl ⟨by rfl, ?_⟩) hHeld ?_
        rotate_left
        · intro V hSw; have y1 := (Bx.below (unhide A3) hSw).cv; have y2 := (Bx.below (unhide A3) hSw).lt; have q0 := (unhide HG _ hSw).1; have q2 := (unhide HG _ hSw).2.2; go_simp; rfl
        try simp only [Act.put, List.getElem_toArray, List.getElem_cons_succ, List.getElem_cons_zero, List.setIfInBounds_toArray, List.set_cons_zero, List.set_cons_succ]
        refine wpAnyH_take (i := 8) (v := ?_) rfl (by kernel_rfl) (by kernel_rfl) (by kernel_rfl) (fun _ _ _ h => h) (Or.inl ⟨by rfl, ?_⟩) hHeld ?_
        rotate_left
        · intro V hSw; have y1 := (Bx.below (unhide A3) hSw).cv; have y2 := (Bx.below (unhide A3) hSw).lt; have q0 := (unhide HG _ hSw).1; have q2 := (unhide HG _ hSw).2.2; go_simp; rfl
        try simp only [Act.put, List.getElem_toArray, List.getElem_cons_succ, List.getElem_cons_zero, List.setIfInBounds_toArray, List.set_cons_zero, List.set_cons_succ]
        refine wpAnyH_take (i := 9) (v := ?_) rfl (by kernel_rfl) (by kernel_rfl) (by kernel_rfl) (fun _ _ _ h => h) (Or.inl ⟨by rfl, ?_⟩) hHeld ?_
        rotate_left
        · intro V hSw; have y1 := (Bx.below (unhide A3) hSw).cv; have y2 := (Bx.below (unhide A3) hSw).lt; have q0 := (unhide HG _ hSw).1; have q2 := (unhide HG _ hSw).2.2; go_simp; rfl
        try simp only [Act.put, List.getElem_toArray, List.getElem_cons_succ, List.getElem_cons_zero, List.setIfInBounds_toArray, List.set_cons_zero, List.set_cons_succ]
        refine wpAnyH_take (i := 10) (v := ?_) rfl (by kernel_rfl) (by kernel_rfl) (by kernel_rfl) (fun _ _ _ h => h) (Or.inl ⟨by rfl, ?_⟩) hHeld ?_
        rotate_left
        · intro V hSw; have y1 := (Bx.below (unhide A3) hSw).cv; have y2 := (Bx.below (unhide A3) hSw).lt; have q0 := (unhide HG _ hSw).1; have q2 := (unhide HG _ hSw).2.2; go_simp; rfl
        try simp only [Act.put, List.getElem_toArray, List.getElem_cons_succ, List.getElem_cons_zero, List.setIfInBounds_toArray, List.set_cons_zero, List.set_cons_succ]
        refine wpAnyH_take (i := 11) (v := ?_) rfl (by kernel_rfl) (by kernel_rfl) (by kernel_rfl) (fun _ _ _ h => h) (Or.inl ⟨by rfl, ?_⟩) hHeld ?_
        rotate_left
        · intro V hSw; have y1 := (Bx.below (unhide A3) hSw).cv; have y2 := (Bx.below (unhide A3) hSw).lt; have q0 := (unhide HG _ hSw).1; have q2 := (unhide HG _ hSw).2.2; go_simp; rfl
        try simp only [Act.put, List.getElem_toArray, List.getElem_cons_succ, List.getElem_cons_zero, List.setIfInBounds_toArray, List.set_cons_zero, List.set_cons_succ]
        refine wpAnyH_take (i := 12) (v := ?_) rfl (by kernel_rfl) (by kernel_rfl) (by kernel_rfl) (fun _ _ _ h => h) (Or.inl ⟨by rfl, ?_⟩) hHeld ?_
        rotate_left
        · intro V hSw; go_simp; rfl
        try simp only [Act.put, List.getElem_toArray, List.getElem_cons_succ, List.getElem_cons_zero, List.setIfInBounds_toArray, List.set_cons_zero, List.set_cons_succ]
        refine wpAnyH_take (i := 13) (v := ?_) rfl (by kernel_rfl) (by kernel_rfl) (by kernel_rfl) (fun _ _ _ h => h) (Or.inl ⟨by rfl, ?_⟩) hHeld ?_
        rotate_left
        · intro V hSw; go_simp; rfl
        try simp only [Act.put, List.getElem_toArray, List.getElem_cons_succ, List.getElem_cons_zero, List.setIfInBounds_toArray, List.set_cons_zero, List.set_cons_succ]
        refine wpAnyH_take (i := 14) (v := ?_) rfl (by kernel_rfl) (by kernel_rfl) (by kernel_rfl) (fun _ _ _ h => h) (Or.inl ⟨by rfl, ?_⟩) hHeld ?_
        rotate_left
        · intro V hSw; go_simp; rfl
        try simp only [Act.put, List.getElem_toArray, List.getElem_cons_succ, List.getElem_cons_zero, List.setIfInBounds_toArray, List.set_cons_zero, List.set_cons_succ]
        refine wpAnyH_take (i := 15) (v := ?_) rfl (by kernel_rfl) (by kernel_rfl) (by kernel_rfl) (fun _ _ _ h => h) (Or.inl ⟨by rfl, ?_⟩) hHeld ?_
        rotate_left
        · intro V hSw; go_simp; rfl
        try simp only [Act.put, List.getElem_toArray, List.getElem_cons_succ, List.getElem_cons_zero, List.setIfInBounds_toArray, List.set_cons_zero, List.set_cons_succ]
        refine wpAnyH_take (i := 16) (v := ?_) rfl (by kernel_rfl) (by kernel_rfl) (by kernel_rfl) (fun _ _ _ h => h) (Or.inl ⟨by rfl, ?_⟩) hHeld ?_
        rotate_left
        · intro V hSw; go_simp; rfl
        try simp only [Act.put, List.getElem_toArray, List.getElem_cons_succ, List.getElem_cons_zero, List.setIfInBounds_toArray, List.set_cons_zero, List.set_cons_succ]
        refine wpAnyH_take (i := 17) (v := ?_) rfl (by kernel_rfl) (by kernel_rfl) (by kernel_rfl) (fun _ _ _ h => h) (Or.inl ⟨by rfl, ?_⟩) hHeld ?_
        rotate_left
        · intro V hSw; go_simp; rfl
        try simp only [Act.put, List.getElem_toArray, List.getElem_cons_succ, List.getElem_cons_zero, List.setIfInBounds_toArray, List.set_cons_zero, List.set_cons_succ]
        refine wpAnyH_done (by kernel_rfl) ?_ _
        refine NoPanic.normal ?_
        clear hHeld
        have b9 : Below V3.heap.size V3 V3.drew := (Below.refl _ _).drew
        obtain ⟨V4, hV4⟩ : ∃ V, V = V3.drew := ⟨_, rfl⟩
        rw [← hV4] at b9 ⊢
        clear hV4 a3 a3l z3 z3f z3l
        have A4 := hide ((unhide A3).below b9)
        have Z4 := hide ((unhide Z3).below b9)
        have O4 := hide ((unhide O3).below b9)
        have G4 := hide ((unhide HGG).below b9)
        have B4 := hide ((unhide B3).trans (b9.mono s3))
        have q0 := (unhide HG _ b9).1
        have q1 := (unhide HG _ b9).2.1
        have q2 := (unhide HG _ b9).2.2
        have a4 := (unhide A4).cv
        have a4l := (unhide A4).lt
        clear A3 Z3 O3 HGG B3 HG
        obtain ⟨V5, hV5⟩ : ∃ V, V = V4.alloc (.cells #[.int .i64 x.f0, .string x.f1] 53) := ⟨_, rfl⟩
        have al5 : Below V4.heap.size V4 V5 := by rw [hV5]; exact (Below.refl _ _).alloc (Nat.le_refl _) _
        have Y5 := hide (show Bx V5 V4.heap.size (pieceC x) by rw [hV5]; exact Bx.new V4 _ _)
        have sz4 : V3.heap.size ≤ V4.heap.size := b9.size
        obtain ⟨pb, hpb⟩ : ∃ q, q = V4.heap.size := ⟨_, rfl⟩
        have HV5 := hide hV5
        go_upto_region 5 with fail
        rw [← unhide HV5, ← hpb]
        rw [← hpb] at Y5
        have A5 := hide ((unhide A4).below al5)
        have Z5 := hide ((unhide Z4).below al5)
        have G5 := hide ((unhide G4).below al5)
        have O5 := hide ((unhide O4).below al5)
        have B5 := hide ((unhide B4).trans (al5.mono (unhide B4).size))
        have szY : pb < V5.heap.size := (unhide Y5).lt
        have szG : g < pb := by rw [hpb]; exact (unhide G4).lt
        have szW : W.heap.size + 2 ≤ g := hg0
        have a5 := (unhide A5).cv
        have a5l := (unhide A5).lt
        have y5 := (unhide Y5).cv
        have y5l := (unhide Y5).lt
        clear HV5 hV5 al5 A4 Z4 G4 O4 B4 q0 q1 q2 a4 a4l b9 hpb sz4 hg1 hg0
        have hnn : Hid (rdN x most = if most < x.f1.size then most.toNat else x.f1.size) := rfl
        obtain ⟨n, hn⟩ : ∃ n, rdN x most = n := ⟨_, rfl⟩
        rw [hn] at E1 E2 hnn
        clear hn
        have nle : n ≤ x.f1.size := by rw [unhide hnn]; split <;> omega
        have n4 : n ≤ 4000 ∨ n = x.f1.size := by rw [unhide hnn]; split <;> omega
        go_upto_if 39 with fail
        go_cut [7] (fun s7 wx => s7 = .int .i64 (n : Int) ∧ wx = V5)
        case first =>
          by_cases hms : most < (x.f1.size : Int)
          · have f1 : Hid (Value.int .i64 most = .int .i64 (n : Int)) := by show _ = _; rw [unhide hnn, if_pos hms]; congr 1; omega
            clear n4
            go_wp2
            go_meet
            exact ⟨unhide f1, rfl⟩
          · have f1 : Hid (Value.int .i64 (x.f1.size : Int) = .int .i64 (n : Int)) := by show _ = _; rw [unhide hnn, if_neg hms]
            clear n4
            go_wp2
            go_meet
            exact ⟨unhide f1, rfl⟩
        case rest =>
        obtain ⟨rfl, hw⟩ := hcut
        rw [hw]
        clear hw hnn
        have n0 : (0 : Int) ≤ (n : Int) := by omega
        have n1 : (n : Int) ≤ (x.f1.size : Int) := by omega
        have n3 : ((n : Int)).toNat = n := rfl
        have wr9 : IntKind.i64.wrap (D.re + (n : Int)) = D.re + (n : Int) := by rw [IntKind.wrap_i64]; omega
        obtain ⟨V6, hV6⟩ : ∃ V, V = V5.setCell ⟨W.heap.size, 1, none⟩ (.int .i64 (D.re + (n : Int))) := ⟨_, rfl⟩
        have k6 : Kq (fun q => q = W.heap.size) V5 V6 := by rw [hV6]; exact (Kq.refl _ _).set rfl
        have A6 := hide (show Bx V6 W.heap.size [.int .i64 D.li, .int .i64 (D.re + (n : Int)), .int .i64 D.fi, .slice (some ⟨g, 0, none⟩) D.P.length c2] by rw [hV6]; exact (unhide A5).set (i := 1) (by simp))
        have Z6 := hide (Bx.kept (unhide Z5) k6.size (k6.block _ (unhide Z5).lt (by omega)))
        have Y6 := hide (Bx.kept (unhide Y5) k6.size (k6.block _ (unhide Y5).lt (by omega)))
        have G6 := hide (Rg.kept (unhide G5) k6.size (k6.block _ (unhide G5).lt (by omega)))
        have s5 := (unhide B5).size
        have B6 := hide ((unhide B5).trans (k6.below (base := W.heap.size) s5 (fun q hq => by omega)))
        have s6 := k6.size
        have a5f := (unhide A5).fz
        have HV6 := hide hV6
        clear hV6 k6 A5 Z5 Y5 G5 O5 B5
        go_upto_region 10 with fail
        rw [← unhide HV6]
        clear HV6 a5 a5l a5f y5 y5l
        have a6 := (unhide A6).cv
        have a6f := (unhide A6).fz
        have a6l := (unhide A6).lt
        have y6 := (unhide Y6).cv
        have y6l := (unhide Y6).lt
        have z6 := (unhide Z6).cv
        have z6f := (unhide Z6).fz
        have z6l := (unhide Z6).lt
        by_cases hns : n = x.f1.size
        · have hns' : ((n : Int) == (x.f1.size : Int)) = true := beq_iff_eq.2 (by omega)
          have hl1 : (1 : Int) ≤ (D.P.length : Int) := by omega
          have hle : (D.P.length : Int) ≤ (c2 : Int) := by omega
          have hle1 : P.length + 1 ≤ c2 := by have := unhide HL; omega
          obtain ⟨a8, ha8⟩ : ∃ a8 : Option Addr, a8 = (if c2 = 1 then some ⟨g, 0, none⟩ else some ⟨g, 2, none⟩) := ⟨_, rfl⟩
          obtain ⟨V7, hV7⟩ : ∃ V, V = V6.setCell ⟨W.heap.size, 3, none⟩ (.slice a8 (D.P.length - 1) (c2 - 1)) := ⟨_, rfl⟩
          have k7 : Kq (fun q => q = W.heap.size) V6 V7 := by rw [hV7]; exact (Kq.refl _ _).set rfl
          have A7 := hide (show Bx V7 W.heap.size [.int .i64 D.li, .int .i64 (D.re + (n : Int)), .int .i64 D.fi, .slice a8 (D.P.length - 1) (c2 - 1)] by rw [hV7]; exact (unhide A6).set (i := 3) (by simp))
          have Z7 := hide (Bx.kept (unhide Z6) k7.size (k7.block _ (unhide Z6).lt (by omega)))
          have G7 := hide (Rg.kept (unhide G6) k7.size (k7.block _ (unhide G6).lt (by omega)))
          have B7 := hide ((unhide B6).trans (k7.below (base := W.heap.size) (by omega) (fun q hq => by omega)))
          have RP : Hid (Rd pieceK V7 a8 P) := by
            show Rd _ _ _ _
            by_cases h0 : P = []
            · exact Or.inl h0
            · have hp1 : P.length ≠ 0 := fun h => h0 (List.length_eq_zero_iff.1 h)
              rw [ha8, if_neg (by omega)]
              refine Or.inr ⟨g, 2, rfl, (unhide G7).lt, fun q hq => ?_⟩
              have h9 := (unhide G7).c (2 + q) (by rw [unhide HL]; change 2 + q < (P.length + 1) * 2; change q < P.length * 2 at hq; omega)
              rw [unhide HP, cl_two] at h9
              exact h9
          have HA8 := hide ha8
          have HV7 := hide hV7
          have FN : Hid (∀ U, Kq (fun q => q = W.heap.size + 1) V7 U → RDQ (rdE D most) (rdO D most) W (.returned (.tuple #[.agg #[.int .i64 D.li, .int .i64 (D.re + (n : Int)), .int .i64 D.fi, .slice a8 (D.P.length - 1) (c2 - 1)], .string (x.f1.extract 0 n)])) U) := fun U k => by
            rw [unhide E1, unhide E2]
            unfold rdL
            rw [if_pos hns]
            refine ⟨a8, c2 - 1, by rw [unhide HL]; rfl, ?_, (fun b o t e => by rw [unhide HA8] at e; split at e <;> (injection e with e; injection e with e1 e2; omega)), (unhide B7).trans (k.below (base := W.heap.size) (unhide B7).size (fun q hq => by omega))⟩
            rcases unhide RP with h9 | ⟨b, o, e, l, h9⟩
            · exact Or.inl h9
            · refine Or.inr ⟨b, o, e, Nat.lt_of_lt_of_le l k.size, fun q hq => ?_⟩
              have hbg : b ≠ W.heap.size + 1 := by
                rw [unhide HA8] at e
                split at e <;> (injection e with e; injection e with e1 e2; omega)
              rw [World.cell?_of_block (a := ⟨b, o + q, none⟩) (k.block b l hbg)]
              exact h9 q hq
          clear ha8 hV7 k7 A6 Z6 G6 B6 RP E1 E2 HL HP Y6 hle1 hns
          go_upto_region 13 with fail
          rw [← unhide HA8, ← unhide HV7]
          clear HA8 HV7 a6 a6f a6l y6 y6l z6 z6f z6l G7 B7
          have a7 := (unhide A7).cv
          have a7l := (unhide A7).lt
          have z7 := (unhide Z7).cv
          have z7f := (unhide Z7).fz
          have z7l := (unhide Z7).lt
          go_wp2
          refine bodyPost_ret (v := .tuple #[.agg #[.int .i64 D.li, .int .i64 (D.re + (n : Int)), .int .i64 D.fi, .slice a8 (D.P.length - 1) (c2 - 1)], .string (x.f1.extract 0 n)]) (by simp [results, Try.results21, go_sem, z7]) rfl (unhide FN _ ?_)
          repeat (refine Kq.set ?_ rfl)
          exact Kq.refl _ _
        · have hns' : ((n : Int) == (x.f1.size : Int)) = false := beq_eq_false_iff_ne.2 (by omega)
          have hs2 : (0 : Int) ≤ (x.f1.size : Int) := by omega
          have g0 := (unhide G6).c 0 (by change 0 < D.P.length * 2; omega)
          have g1 := (unhide G6).c 1 (by change 1 < D.P.length * 2; omega)
          have gf := (unhide G6).fz
          have gl := (unhide G6).lt
          obtain ⟨t9, ht9⟩ : ∃ t9, x.f1.extract n x.f1.size = t9 := ⟨_, rfl⟩
          obtain ⟨V7, hV7⟩ : ∃ V, V = ((V6.setCell ⟨g, 0, none⟩ (.int .i64 (D.re + (n : Int)))).setCell ⟨g, 1, none⟩ (.string t9)).drew := ⟨_, rfl⟩
          have k7 : Kq (fun q => q = g) V6 V7 := by rw [hV7]; exact ((((Kq.refl (fun q => q = g) V6).set rfl).set rfl).trans (Kq.of (Below.refl _ _).drew))
          have A7 := hide ((unhide A6).kept k7.size (k7.block _ (unhide A6).lt (by omega)))
          have Z7 := hide ((unhide Z6).kept k7.size (k7.block _ (unhide Z6).lt (by omega)))
          have B7 := hide ((unhide B6).trans (k7.below (base := W.heap.size) (by omega) (fun q hq => by omega)))
          have RP : Hid (Rd pieceK V7 (some ⟨g, 0, none⟩) (⟨D.re + (n : Int), t9⟩ :: P)) := by
            refine Or.inr ⟨g, 0, rfl, Nat.lt_of_lt_of_le gl k7.size, fun q hq => ?_⟩
            rw [Nat.zero_add]
            change q < (P.length + 1) * 2 at hq
            rw [hV7]
            have hX : Bx' V6 g 0 (.int .i64 (D.re + (n : Int))) 1 (.string t9) := bx_two V6 g _ _ g0 g1
            by_cases q0 : q = 0
            · subst q0
              exact hX.1
            · by_cases q1 : q = 1
              · subst q1
                exact hX.2.1
              · rw [show World.cell? (((V6.setCell ⟨g, 0, none⟩ (.int .i64 (D.re + (n : Int)))).setCell ⟨g, 1, none⟩ (.string t9)).drew) ⟨g, q, none⟩ = V6.cell? ⟨g, q, none⟩ from hX.2.2 q q0 q1, (unhide G6).c q (by rw [unhide HL]; exact hq), unhide HP]
                exact congrArg some (cl_skip x _ P q (by omega))
          have HV7 := hide hV7
          have FN : Hid (∀ U, Kq (fun q => q = W.heap.size + 1) V7 U → RDQ (rdE D most) (rdO D most) W (.returned (.tuple #[.agg #[.int .i64 D.li, .int .i64 (D.re + (n : Int)), .int .i64 D.fi, .slice (some ⟨g, 0, none⟩) D.P.length c2], .string (x.f1.extract 0 n)])) U) := fun U k => by
            rw [unhide E1, unhide E2]
            unfold rdL
            rw [if_neg hns, ht9]
            refine ⟨some ⟨g, 0, none⟩, c2, by rw [unhide HL]; rfl, ?_, (fun b o t e => by injection e with e; injection e with e1 e2; omega), (unhide B7).trans (k.below (base := W.heap.size) (unhide B7).size (fun q hq => by omega))⟩
            rcases unhide RP with h9 | ⟨b, o, e, l, h9⟩
            · exact Or.inl h9
            · refine Or.inr ⟨b, o, e, Nat.lt_of_lt_of_le l k.size, fun q hq => ?_⟩
              have hbg : b ≠ W.heap.size + 1 := by injection e with e; injection e with e1 e2; omega
              rw [World.cell?_of_block (a := ⟨b, o + q, none⟩) (k.block b l hbg)]
              exact h9 q hq
          have HT9 := hide ht9
          clear hV7 k7 A6 Z6 B6 RP E1 E2 HL HP Y6 hns ht9 G6
          go_upto_region 12 with fail
          go_region_law (fail)
          all_goals
            rw [unhide HT9, ← unhide HV7]
            have a7 := (unhide A7).cv
            have a7l := (unhide A7).lt
            have z7 := (unhide Z7).cv
            have z7f := (unhide Z7).fz
            have z7l := (unhide Z7).lt
            clear HV7 HT9 a6 a6f a6l y6 y6l z6 z6f z6l g0 g1 gf gl B7 A7 Z7
            go_wp2
            refine bodyPost_ret (v := .tuple #[.agg #[.int .i64 D.li, .int .i64 (D.re + (n : Int)), .int .i64 D.fi, .slice (some ⟨g, 0, none⟩) D.P.length c2], .string (x.f1.extract 0 n)]) (by simp [results, Try.results21, go_sem, z7]) rfl (unhide FN _ ?_)
            repeat (refine Kq.set ?_ rfl)
            exact Kq.refl _ _
    · have t1 : (x.f0 != D.re) = true := by simp [h1]
      have e1 : rdE D most = D := by unfold rdE; rw [hP]; dsimp only; rw [if_neg (fun h => h1 h.1)]
      have e2 : rdO D most = ⟨#[]⟩ := by unfold rdO; rw [hP]; dsimp only; rw [if_neg (fun h => h1 h.1)]
      have E1 := hide e1
      have E2 := hide e2
      have HZ := HG
      clear e1 e2 hP hlen h1
      have FN := hide (fun U k => unhide FIN U k)
      clear FIN O3 B3 HZ
      refine wp_region_noPanic ?_
      refine wp_region_held_drew (S := fun V => Below V3.heap.size V3 V) (by kernel_rfl) ((Below.refl _ _).drew) (fun hHeld => ?_)
      refine wpAnyH_take (i := 0) (v := ?_) rfl (by kernel_rfl) (by kernel_rfl) (by kernel_rfl) (fun _ _ _ h => h) (Or.inl ⟨by rfl, ?_⟩) hHeld ?_
      rotate_left
      · intro V hSw; have y1 := (Bx.below (unhide A3) hSw).cv; have y2 := (Bx.below (unhide A3) hSw).lt; have q0 := (unhide HG _ hSw).1; have q2 := (unhide HG _ hSw).2.2; go_simp; rfl
      try simp only [Act.put, List.getElem_toArray, List.getElem_cons_zero, List.setIfInBounds_toArray, List.set_cons_zero, List.set_cons_succ]
      refine wpAnyH_take (i := 1) (v := ?_) rfl (by kernel_rfl) (by kernel_rfl) (by kernel_rfl) (fun _ _ _ h => h) (Or.inl ⟨by rfl, ?_⟩) hHeld ?_
      rotate_left
      · intro V hSw; have y1 := (Bx.below (unhide A3) hSw).cv; have y2 := (Bx.below (unhide A3) hSw).lt; have q0 := (unhide HG _ hSw).1; have q2 := (unhide HG _ hSw).2.2; go_simp; rfl
      try simp only [Act.put, List.getElem_toArray, List.getElem_cons_succ, List.getElem_cons_zero, List.setIfInBounds_toArray, List.set_cons_zero, List.set_cons_succ]
      refine wpAnyH_take (i := 2) (v := ?_) rfl (by kernel_rfl) (by kernel_rfl) (by kernel_rfl) (fun _ _ _ h => h) (Or.inl ⟨by rfl, ?_⟩) hHeld ?_
      rotate_left
      · intro V hSw; go_simp; rfl
      try simp only [Act.put, List.getElem_toArray, List.getElem_cons_succ, List.getElem_cons_zero, List.setIfInBounds_toArray, List.set_cons_zero, List.set_cons_succ]
      refine wpAnyH_take (i := 3) (v := ?_) rfl (by kernel_rfl) (by kernel_rfl) (by kernel_rfl) (fun _ _ _ h => h) (Or.inl ⟨by rfl, ?_⟩) hHeld ?_
      rotate_left
      · intro V hSw; go_simp; rfl
      try simp only [Act.put, List.getElem_toArray, List.getElem_cons_succ, List.getElem_cons_zero, List.setIfInBounds_toArray, List.set_cons_zero, List.set_cons_succ]
      refine wpAnyH_take (i := 4) (v := ?_) rfl (by kernel_rfl) (by kernel_rfl) (by kernel_rfl) (fun _ _ _ h => h) (Or.inl ⟨by rfl, ?_⟩) hHeld ?_
      rotate_left
      · intro V hSw; go_simp; rfl
      try simp only [Act.put, List.getElem_toArray, List.getElem_cons_succ, List.getElem_cons_zero, List.setIfInBounds_toArray, List.set_cons_zero, List.set_cons_succ]
      refine wpAnyH_take (i := 5) (v := ?_) rfl (by kernel_rfl) (by kernel_rfl) (by kernel_rfl) (fun _ _ _ h => h) (Or.inl ⟨by rfl, ?_⟩) hHeld ?_
      rotate_left
      · intro V hSw; have y1 := (Bx.below (unhide A3) hSw).cv; have y2 := (Bx.below (unhide A3) hSw).lt; have q0 := (unhide HG _ hSw).1; have q2 := (unhide HG _ hSw).2.2; go_simp; rfl
      try simp only [Act.put, List.getElem_toArray, List.getElem_cons_succ, List.getElem_cons_zero, List.setIfInBounds_toArray, List.set_cons_zero, List.set_cons_succ]
      refine wpAnyH_take (i := 6) (v := ?_) rfl (by kernel_rfl) (by kernel_rfl) (by kernel_rfl) (fun _ _ _ h => h) (Or.inl ⟨by rfl, ?_⟩) hHeld ?_
      rotate_left
      · intro V hSw; have y1 := (Bx.below (unhide A3) hSw).cv; have y2 := (Bx.below (unhide A3) hSw).lt; have q0 := (unhide HG _ hSw).1; have q2 := (unhide HG _ hSw).2.2; go_simp; rfl
      try simp only [Act.put, List.getElem_toArray, List.getElem_cons_succ, List.getElem_cons_zero, List.setIfInBounds_toArray, List.set_cons_zero, List.set_cons_succ]
      refine wpAnyH_take (i := 7) (v := ?_) rfl (by kernel_rfl) (by kernel_rfl) (by kernel_rfl) (fun _ _ _ h => h) (Or.inl ⟨by rfl, ?_⟩) hHeld ?_
      rotate_left
      · intro V hSw; have y1 := (Bx.below (unhide A3) hSw).cv; have y2 := (Bx.below (unhide A3) hSw).lt; have q0 := (unhide HG _ hSw).1; have q2 := (unhide HG _ hSw).2.2; go_simp; rfl
      try simp only [Act.put, List.getElem_toArray, List.getElem_cons_succ, List.getElem_cons_zero, List.setIfInBounds_toArray, List.set_cons_zero, List.set_cons_succ]
      refine wpAnyH_take (i := 8) (v := ?_) rfl (by kernel_rfl) (by kernel_rfl) (by kernel_rfl) (fun _ _ _ h => h) (Or.inl ⟨by rfl, ?_⟩) hHeld ?_
      rotate_left
      · intro V hSw; have y1 := (Bx.below (unhide A3) hSw).cv; have y2 := (Bx.below (unhide A3) hSw).lt; have q0 := (unhide HG _ hSw).1; have q2 := (unhide HG _ hSw).2.2; go_simp; rfl
      try simp only [Act.put, List.getElem_toArray, List.getElem_cons_succ, List.getElem_cons_zero, List.setIfInBounds_toArray, List.set_cons_zero, List.set_cons_succ]
      refine wpAnyH_take (i := 9) (v := ?_) rfl (by kernel_rfl) (by kernel_rfl) (by kernel_rfl) (fun _ _ _ h => h) (Or.inl ⟨by rfl, ?_⟩) hHeld ?_
      rotate_left
      · intro V hSw; have y1 := (Bx.below (unhide A3) hSw).cv; have y2 := (Bx.below (unhide A3) hSw).lt; have q0 := (unhide HG _ hSw).1; have q2 := (unhide HG _ hSw).2.2; go_simp; rfl
      try simp only [Act.put, List.getElem_toArray, List.getElem_cons_succ, List.getElem_cons_zero, List.setIfInBounds_toArray, List.set_cons_zero, List.set_cons_succ]
      refine wpAnyH_take (i := 10) (v := ?_) rfl (by kernel_rfl) (by kernel_rfl) (by kernel_rfl) (fun _ _ _ h => h) (Or.inl ⟨by rfl, ?_⟩) hHeld ?_
      rotate_left
      · intro V hSw; have y1 := (Bx.below (unhide A3) hSw).cv; have y2 := (Bx.below (unhide A3) hSw).lt; have q0 := (unhide HG _ hSw).1; have q2 := (unhide HG _ hSw).2.2; go_simp; rfl
      try simp only [Act.put, List.getElem_toArray, List.getElem_cons_succ, List.getElem_cons_zero, List.setIfInBounds_toArray, List.set_cons_zero, List.set_cons_succ]
      refine wpAnyH_take (i := 11) (v := ?_) rfl (by kernel_rfl) (by kernel_rfl) (by kernel_rfl) (fun _ _ _ h => h) (Or.inl ⟨by rfl, ?_⟩) hHeld ?_
      rotate_left
      · intro V hSw; have y1 := (Bx.below (unhide A3) hSw).cv; have y2 := (Bx.below (unhide A3) hSw).lt; have q0 := (unhide HG _ hSw).1; have q2 := (unhide HG _ hSw).2.2; go_simp; rfl
      try simp only [Act.put, List.getElem_toArray, List.getElem_cons_succ, List.getElem_cons_zero, List.setIfInBounds_toArray, List.set_cons_zero, List.set_cons_succ]
      refine wpAnyH_take (i := 12) (v := ?_) rfl (by kernel_rfl) (by kernel_rfl) (by kernel_rfl) (fun _ _ _ h => h) (Or.inl ⟨by rfl, ?_⟩) hHeld ?_
      rotate_left
      · intro V hSw; go_simp; rfl
      try simp only [Act.put, List.getElem_toArray, List.getElem_cons_succ, List.getElem_cons_zero, List.setIfInBounds_toArray, List.set_cons_zero, List.set_cons_succ]
      refine wpAnyH_take (i := 13) (v := ?_) rfl (by kernel_rfl) (by kernel_rfl) (by kernel_rfl) (fun _ _ _ h => h) (Or.inl ⟨by rfl, ?_⟩) hHeld ?_
      rotate_left
      · intro V hSw; go_simp; rfl
      try simp only [Act.put, List.getElem_toArray, List.getElem_cons_succ, List.getElem_cons_zero, List.setIfInBounds_toArray, List.set_cons_zero, List.set_cons_succ]
      refine wpAnyH_take (i := 14) (v := ?_) rfl (by kernel_rfl) (by kernel_rfl) (by kernel_rfl) (fun _ _ _ h => h) (Or.inl ⟨by rfl, ?_⟩) hHeld ?_
      rotate_left
      · intro V hSw; go_simp; rfl
      try simp only [Act.put, List.getElem_toArray, List.getElem_cons_succ, List.getElem_cons_zero, List.setIfInBounds_toArray, List.set_cons_zero, List.set_cons_succ]
      refine wpAnyH_take (i := 15) (v := undef) rfl (by kernel_rfl) (by kernel_rfl) (by kernel_rfl) (fun _ _ _ h => h) (Or.inr ⟨by rfl, rfl⟩) hHeld ?_
      try simp only [Act.put, List.getElem_toArray, List.getElem_cons_succ, List.getElem_cons_zero, List.setIfInBounds_toArray, List.set_cons_zero, List.set_cons_succ]
      refine wpAnyH_take (i := 16) (v := undef) rfl (by kernel_rfl) (by kernel_rfl) (by kernel_rfl) (fun _ _ _ h => h) (Or.inr ⟨by rfl, rfl⟩) hHeld ?_
      try simp only [Act.put, List.getElem_toArray, List.getElem_cons_succ, List.getElem_cons_zero, List.setIfInBounds_toArray, List.set_cons_zero, List.set_cons_succ]
      refine wpAnyH_take (i := 17) (v := ?_) rfl (by kernel_rfl) (by kernel_rfl) (by kernel_rfl) (fun _ _ _ h => h) (Or.inl ⟨by rfl, ?_⟩) hHeld ?_
      rotate_left
      · intro V hSw; go_simp; rfl
      try simp only [Act.put, List.getElem_toArray, List.getElem_cons_succ, List.getElem_cons_zero, List.setIfInBounds_toArray, List.set_cons_zero, List.set_cons_succ]
      refine wpAnyH_done (by kernel_rfl) ?_ _
      refine NoPanic.normal ?_
      clear hHeld
      have b9 : Below V3.heap.size V3 V3.drew := (Below.refl _ _).drew
      have a9 := ((unhide A3).below b9).cv
      have a9l := ((unhide A3).below b9).lt
      have z9 := ((unhide Z3).below b9).cv
      have z9f := ((unhide Z3).below b9).fz
      have z9l := ((unhide Z3).below b9).lt
      have K9 := hide (show Kq (fun q => q = W.heap.size + 1) V3 V3.drew from Kq.of b9)
      obtain ⟨V9, hV9⟩ : ∃ V, V = V3.drew := ⟨_, rfl⟩
      rw [← hV9] at a9 a9l z9 z9f z9l K9 ⊢
      clear b9 hV9 a3 a3l z3 z3f z3l A3 Z3
      go_wp2
      refine bodyPost_ret (v := .tuple #[.agg #[.int .i64 D.li, .int .i64 D.re, .int .i64 D.fi, .slice (some ⟨g, 0, none⟩) D.P.length c2], .string ⟨#[]⟩]) (by simp [results, Try.results21, go_sem, z9]) rfl ?_
      show RDQ _ _ _ _ _
      rw [unhide E1, unhide E2]
      refine unhide FN _ ((unhide K9).trans ?_)
      repeat (refine Kq.set ?_ rfl)
      exact Kq.refl _ _
end Go.Proofs.Ytmicpknilhiliaa.Rc
