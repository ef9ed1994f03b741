/-
  Contract of the program: what comes is taken.
-/
import Derived.Test.YtmicpknilhiliaaTgi4
import Derived.Deep.DeepCutAuto
namespace Go.Proofs.Ytmicpknilhiliaa.Rc
open Go.ChangeShapes Go.WideShapes Go.ChangeAt Go.RowKit Go.Deep
set_option linter.unusedVariables false
set_option maxRecDepth 100000

theorem implWPe (P : List PieceD) (x : PieceD) (hz : x.f1.size = 0) (W : World) (a : Option Addr) (c : Nat) :
    Calls Try.prog 45 #[.slice a P.length c, pieceV x] W fun e w' => e = .returned (.slice a P.length c) ∧ Below W.heap.size W w' := by
  have al : Hid (∀ o, Below W.heap.size W (W.alloc o)) := fun o => (Below.refl _ _).alloc (Nat.le_refl _) _
  have z1 : x.f1.toList = [] := (sz_nil _).2 hz
  clear hz
  go_enter Try.func45, Try.ntmps45
  go_wp2
  go_ret
  exact ⟨rfl, unhide al _⟩
theorem tkP_pr (D : InflowD) (at' : Int) (d : ByteArray) (h0 : 0 ≤ at') (hr : 0 ≤ D.re) : tkP D at' d = if (prF ⟨at', d⟩ D.re).f1.size = 0 then D.P else putS D.P (prF ⟨at', d⟩ D.re) := by
  have hc : prC ⟨at', d⟩ D.re = min (D.re - at').toNat d.size := rfl
  have hs : (prF ⟨at', d⟩ D.re).f1.size = d.size - prC ⟨at', d⟩ D.re := by unfold prF; dsimp only; rw [ByteArray.size_extract]; omega
  have he : D.re < at' + d.size → prF ⟨at', d⟩ D.re = tkX D.re at' d := fun h => by
    unfold tkX
    by_cases ha : at' < D.re
    · rw [if_pos ha]
      have e1 : prC ⟨at', d⟩ D.re = (D.re - at').toNat := by rw [hc]; omega
      unfold prF
      rw [e1]
      dsimp only
      rw [show at' + (((D.re - at').toNat : Nat) : Int) = D.re by omega]
    · rw [if_neg ha]
      have e1 : prC ⟨at', d⟩ D.re = 0 := by rw [hc]; omega
      unfold prF
      rw [e1]
      dsimp only
      rw [show at' + ((0 : Nat) : Int) = at' by omega, show d.extract 0 d.size = d from ByteArray.ext (by rw [ByteArray.data_extract]; exact Array.extract_size)]
  unfold tkP
  by_cases h : D.re < at' + d.size
  · rw [← he h]
    by_cases h2 : (prF ⟨at', d⟩ D.re).f1.size = 0
    · rw [if_neg (fun q => q.2 h2), if_pos h2]
    · rw [if_pos ⟨h, h2⟩, if_neg h2]
  · rw [if_neg (fun q => h q.1), if_pos (by rw [hs, hc]; omega)]
/-- a piece is put to the pieces of a good inflow -/
theorem implWW (D : InflowD) (at' : Int) (d : ByteArray) (g : GoodI D) (h0 : 0 ≤ at') (hl : at' + d.size ≤ D.li) (hcl : clB D.P at' d = false) (W : World) (a : Option Addr) (c : Nat) (hs : Sl4 a c D.P.length) (hcm : c ≤ maxLen) (h : Rd pieceK W a D.P) (B : Nat) (hB : ∀ b o t, a = some ⟨b, o, t⟩ → D.P = [] ∨ b < B) :
    Calls Try.prog 45 #[.slice a D.P.length c, pieceV (prF ⟨at', d⟩ D.re)] W fun e w' => (∃ (a' : Option Addr) (c' : Nat), e = .returned (.slice a' (tkP D at' d).length c') ∧ Rd pieceK w' a' (tkP D at' d) ∧ ∀ b o t, a' = some ⟨b, o, t⟩ → tkP D at' d = [] ∨ b < B ∨ W.heap.size ≤ b) ∧ Below W.heap.size W w' := by
  rw [tkP_pr D at' d h0 g.r0]
  by_cases hz : (prF ⟨at', d⟩ D.re).f1.size = 0
  · rw [if_pos hz]
    refine (implWPe D.P _ hz W a c).mono ?_
    rintro e w' ⟨rfl, b⟩
    exact ⟨⟨a, c, rfl, h.below b, fun q o t e => (hB q o t e).imp id Or.inl⟩, b⟩
  · rw [if_neg hz]
    have hc : prC ⟨at', d⟩ D.re = min (D.re - at').toNat d.size := rfl
    have hlow : lowP (prF ⟨at', d⟩ D.re) := by
      have h1 := g.l1
      unfold lowP pE prF
      dsimp only
      rw [ByteArray.size_extract]
      omega
    have hL : ∀ p ∈ D.P, lowP p := fun p hp => ⟨by have := can_lo g.can p hp; have := g.r0; omega, by have := (g.hi p hp).1; have := g.l1; omega⟩
    refine (implWP D.P _ D.re g.can hL hlow hz (agr_part (agr_no hcl)) (by have := g.n; omega) W a c hs hcm h).mono ?_
    rintro e w' ⟨v, rfl, o, b⟩
    obtain ⟨a', c', rfl, _, i⟩ := o.form
    exact ⟨⟨a', c', rfl, i.rd, fun q o2 t e => Or.inr (Or.inr (o.blkx q o2 t e))⟩, b⟩
/-- the code of what comes, of a good inflow and a piece as said -/
def tkK (D : InflowD) (at' : Int) (d : ByteArray) (fin : Bool) : Int :=
  if D.li < at' + d.size then 2 else if fnB D (at' + d.size) fin = true then 3 else if clB D.P at' d = true then 4 else if 40 < (tkP D at' d).length then 5 else 0
abbrev incC (at' : Int) (d : ByteArray) (fin : Bool) : List Value := [.int .i64 at', .string d, .bool fin]
def TKQ (D : InflowD) (at' : Int) (d : ByteArray) (fin : Bool) (W : World) (e : Ending) (w' : World) : Prop :=
  ∃ (a' : Option Addr) (c' : Nat), e = .returned (.tuple #[inflowV (tkD D at' d fin (tkK D at' d fin)) a' c', .int .i64 (tkK D at' d fin)]) ∧ Rd pieceK w' a' (tkD D at' d fin (tkK D at' d fin)).P ∧ Below W.heap.size W w'
theorem TKQ.no {D : InflowD} {at' : Int} {d : ByteArray} {fin : Bool} {W w' : World} {a : Option Addr} {c : Nat} {k : Int} (hk : tkK D at' d fin = k) (h0 : k ≠ 0) (h1 : k ≠ 1) (h : Rd pieceK w' a D.P) (b : Below W.heap.size W w') : TKQ D at' d fin W (.returned (.tuple #[inflowV D a c, .int .i64 k])) w' := by
  have e : tkD D at' d fin (tkK D at' d fin) = D := by rw [hk]; unfold tkD; rw [if_neg h1, if_neg h0]
  refine ⟨a, c, ?_, ?_, b⟩
  · rw [e, hk]
  · rw [e]; exact h
set_option maxHeartbeats 16000000 in
theorem implTk (D : InflowD) (at' : Int) (d : ByteArray) (fin : Bool) (a : Option Addr) (c : Nat) (W : World) (g : GoodI D) (h0 : 0 ≤ at') (h1 : at' ≤ 4611686018427387903) (hd : d.size ≤ 1500) (hs : Sl4 a c D.P.length) (hcm : c ≤ maxLen) (h : Rd pieceK W a D.P) :
    Calls Try.prog 37 #[inflowV D a c, .agg #[.int .i64 at', .string d, .bool fin]] W (TKQ D at' d fin W) := by
  obtain ⟨V0, hV0⟩ : ∃ V, V = ((W.alloc (.cells (inflowC D a c).toArray 39)).alloc (.cells (incC at' d fin).toArray 55)).alloc (.cells inflowZ.toArray 39) := ⟨_, rfl⟩
  have A0 := hide (show Bx V0 W.heap.size (inflowC D a c) by rw [hV0]; exact ((Bx.new W _ _).alloc _).alloc _)
  have C0 := hide (show Bx V0 (W.heap.size + 1) (incC at' d fin) by rw [hV0]; exact (Bx.newAt (W.alloc _) _ _ _ (by simp)).alloc _)
  have R0 := hide (show Bx V0 (W.heap.size + 1 + 1) inflowZ by rw [hV0]; exact Bx.newAt ((W.alloc _).alloc _) _ _ _ (by simp))
  have B0 := hide (show Below W.heap.size W V0 by rw [hV0]; exact (((Below.refl W.heap.size W).alloc (Nat.le_refl _) _).alloc (by simp) _).alloc (by simp; omega) _)
  have HR := hide (fun V (b : Below W.heap.size W V) => h.below b)
  have HV0 := hide hV0
  have hpp : okP D.P := fun p hp => by
    have e1 := can_lo g.can p hp
    have e2 := (g.hi p hp).1
    have e3 := g.r0
    have e4 := g.l1
    have e5 : pE p = p.f0 + p.f1.size := rfl
    exact ⟨⟨by omega, by omega⟩, by omega⟩
  have hL : ∀ p ∈ D.P, lowP p := fun p hp => ⟨by have := can_lo g.can p hp; have := g.r0; omega, by have := (g.hi p hp).1; have := g.l1; omega⟩
  have HEN := hide (fun W => implEnd ⟨at', d⟩ W (by dsimp only; omega) (by dsimp only; omega) (by dsimp only; omega))
  have HMF := hide (fun V (b : Below W.heap.size W V) => implMF D a c (at' + d.size) fin V hpp (by have := g.n; omega) (h.below b))
  have HCB := hide (fun V (b : Below W.heap.size W V) => implCB ⟨at', d⟩ D.P a c V (by have := g.n; omega) (fun p hp => by rcases List.mem_singleton.1 hp with rfl; exact ⟨⟨by dsimp only; omega, by dsimp only; omega⟩, by dsimp only; omega⟩) hL (h.below b))
  have HPF := hide (fun (hl : at' + d.size ≤ D.li) V => implPF ⟨at', d⟩ D.re V (by dsimp only; omega) (by dsimp only; omega) (by dsimp only; omega) (by have := g.r0; omega) (by have := g.r1; have := g.l1; omega))
  have HWW := hide (fun (hl : at' + d.size ≤ D.li) (hcl : clB D.P at' d = false) V (b : Below W.heap.size W V) => implWW D at' d g h0 hl hcl V a c hs hcm (h.below b) W.heap.size (fun q o t e => by rcases h with h9 | ⟨b9, o9, e9, l9, _⟩; exact Or.inl h9; rw [e9] at e; injection e with e; injection e with e1 _ _; exact Or.inr (by omega)))
  have HK : Hid (tkK D at' d fin = if D.li < at' + d.size then 2 else if fnB D (at' + d.size) fin = true then 3 else if clB D.P at' d = true then 4 else if 40 < (tkP D at' d).length then 5 else 0) := rfl
  have QNO : Hid (∀ (k : Int) (w' : World), tkK D at' d fin = k → k ≠ 0 → k ≠ 1 → Below W.heap.size W w' → TKQ D at' d fin W (.returned (.tuple #[inflowV D a c, .int .i64 k])) w') := fun k w' hk h0 h1 b => TKQ.no hk h0 h1 (h.below b) b
  have QYES : Hid (∀ (a' : Option Addr) (c' : Nat) (w' : World), tkK D at' d fin = 0 → Rd pieceK w' a' (tkP D at' d) → Below W.heap.size W w' → TKQ D at' d fin W (.returned (.tuple #[inflowV ⟨D.li, D.re, if fin = true then at' + d.size else D.fi, tkP D at' d⟩ a' c', .int .i64 0])) w') := fun a' c' w' hk hr b => ⟨a', c', by rw [hk]; rfl, by rw [hk]; exact hr, b⟩
  have hpE : pE ⟨at', d⟩ = at' + d.size := rfl
  rw [hpE] at HEN
  have GN : Hid (D.P.length ≤ 40) := g.n
  generalize TKQ D at' d fin W = Q at *
  generalize tkK D at' d fin = K at *
  generalize fnB D (at' + d.size) fin = bF at *
  generalize clB D.P at' d = bC at *
  generalize tkP D at' d = P' at *
  generalize prF ⟨at', d⟩ D.re = px at *
  generalize he9 : at' + (d.size : Int) = e9 at *
  have HE9 := hide he9
  have x0 := (unhide C0).cv
  have x0l := (unhide C0).lt
  clear hV0 h hpp hL hpE he9 hcm
  obtain ⟨li, re, fi, P⟩ := D
  dsimp only at *
  go_enter Try.func37, Try.ntmps37
  go_upto_region 1 with fail
  rw [← unhide HV0]
  clear HV0
  go_wp2_with fail
  refine (unhide HEN _).mono ?_
  rintro e w1 ⟨rfl, b1⟩
  have A1 := hide ((unhide A0).below b1)
  have C1 := hide ((unhide C0).below b1)
  have R1 := hide ((unhide R0).below b1)
  have B1 := hide ((unhide B0).trans (b1.mono (unhide B0).size))
  clear b1 A0 C0 R0 B0 x0 x0l HEN
  have x1 := (unhide A1).cv
  have x1l := (unhide A1).lt
  go_upto_region 2 with fail
  by_cases g2 : li < e9
  · clear HMF HCB HPF HWW QYES
    have y2 := (unhide R1).cv
    have y2f := (unhide R1).fz
    have y2l := (unhide R1).lt
    have F4 := hide (st4q (unhide R1) (.int .i64 li) (.int .i64 re) (.int .i64 fi) (.slice a P.length c))
    have B9 := hide ((unhide B1).trans ((unhide F4).2.below (base := W.heap.size) (by have := (unhide R1).lt; omega) (fun q hq => by omega)))
    have c1 := (unhide F4).1.cv
    have FIN := hide (unhide QNO 2 _ (by rw [unhide HK, if_pos g2]) (by decide) (by decide) (unhide B9))
    go_wp2
    refine bodyPost_ret (v := .tuple #[inflowV ⟨li, re, fi, P⟩ a c, .int .i64 2]) (by simp [results, Try.results37, go_sem, c1]) rfl (unhide FIN)
  have z1 := (unhide C1).cv
  have z1l := (unhide C1).lt
  go_upto_region 4 with fail
  go_wp2_with fail
  refine (unhide HMF _ (unhide B1)).mono ?_
  rintro e w2 ⟨rfl, b2⟩
  have A2 := hide ((unhide A1).below b2)
  have C2 := hide ((unhide C1).below b2)
  have R2 := hide ((unhide R1).below b2)
  have B2 := hide ((unhide B1).trans (b2.mono (unhide B1).size))
  clear b2 A1 C1 R1 B1 x1 x1l z1 z1l HMF
  have x2 := (unhide A2).cv
  have x2l := (unhide A2).lt
  cases bF with
  | true =>
    clear HCB HPF HWW QYES
    have y2 := (unhide R2).cv
    have y2f := (unhide R2).fz
    have y2l := (unhide R2).lt
    have F4 := hide (st4q (unhide R2) (.int .i64 li) (.int .i64 re) (.int .i64 fi) (.slice a P.length c))
    have B9 := hide ((unhide B2).trans ((unhide F4).2.below (base := W.heap.size) (by have := (unhide R2).lt; omega) (fun q hq => by omega)))
    have c1 := (unhide F4).1.cv
    have FIN := hide (unhide QNO 3 _ (by rw [unhide HK, if_neg (by omega)]; rfl) (by decide) (by decide) (unhide B9))
    go_wp2
    refine bodyPost_ret (v := .tuple #[inflowV ⟨li, re, fi, P⟩ a c, .int .i64 3]) (by simp [results, Try.results37, go_sem, c1]) rfl (unhide FIN)
  | false =>
  have z2 := (unhide C2).cv
  have z2l := (unhide C2).lt
  go_upto_region 6 with fail
  go_wp2_with fail
  refine (unhide HCB _ (unhide B2)).mono ?_
  rintro e w3 ⟨rfl, b3⟩
  have A3 := hide ((unhide A2).below b3)
  have C3 := hide ((unhide C2).below b3)
  have R3 := hide ((unhide R2).below b3)
  have B3 := hide ((unhide B2).trans (b3.mono (unhide B2).size))
  clear b3 A2 C2 R2 B2 x2 x2l z2 z2l HCB
  have x3 := (unhide A3).cv
  have x3l := (unhide A3).lt
  cases bC with
  | true =>
    clear HPF HWW QYES
    have y2 := (unhide R3).cv
    have y2f := (unhide R3).fz
    have y2l := (unhide R3).lt
    have F4 := hide (st4q (unhide R3) (.int .i64 li) (.int .i64 re) (.int .i64 fi) (.slice a P.length c))
    have B9 := hide ((unhide B3).trans ((unhide F4).2.below (base := W.heap.size) (by have := (unhide R3).lt; omega) (fun q hq => by omega)))
    have c1 := (unhide F4).1.cv
    have FIN := hide (unhide QNO 4 _ (by rw [unhide HK, if_neg (by omega)]; rfl) (by decide) (by decide) (unhide B9))
    go_wp2
    refine bodyPost_ret (v := .tuple #[inflowV ⟨li, re, fi, P⟩ a c, .int .i64 4]) (by simp [results, Try.results37, go_sem, c1]) rfl (unhide FIN)
  | false =>
  have HPF := hide (unhide HPF g2)
  have HW2 := hide (fun V (b : Below W.heap.size W V) => unhide HWW g2 (by first | rfl | trivial) V b)
  clear x3 x3l
  obtain ⟨W3, hW3⟩ : ∃ V, V = w3 := ⟨_, rfl⟩
  subst hW3
  go_upto_region 8 with fail
  go_cut [7] (fun s7 wx => ∃ (a8 : Option Addr) (c8 : Nat), s7 = .slice a8 P'.length c8 ∧ Hid (Rd pieceK wx a8 P') ∧ Hid (∀ b o t, a8 = some ⟨b, o, t⟩ → b ≠ W.heap.size ∧ b ≠ W.heap.size + 1 + 1 ∨ P' = []) ∧ Hid (Below W3.heap.size W3 wx))
  case first =>
    refine wp_region_noPanic ?_
    refine wp_region_held_drew (S := fun V => Below W3.heap.size W3 V) (by kernel_rfl) ((Below.refl _ _).drew) (fun hHeld => ?_)
    refine wpAnyH_take (i := 0) (v := ?_) rfl (by kernel_rfl) (by kernel_rfl) (by kernel_rfl) (fun _ _ _ h => h) (Or.inl ⟨by rfl, ?_⟩) hHeld ?_
    rotate_left
    · intro V hSw; have y1 := (Bx.below (unhide A3) hSw).cv; have y2 := (Bx.below (unhide A3) hSw).lt; have z1 := (Bx.below (unhide C3) hSw).cv; have z2 := (Bx.below (unhide C3) hSw).lt; go_simp; rfl
    try simp only [Act.put, List.getElem_toArray, List.getElem_cons_zero, List.setIfInBounds_toArray, List.set_cons_zero, List.set_cons_succ]
    refine wpAnyH_take (i := 1) (v := ?_) rfl (by kernel_rfl) (by kernel_rfl) (by kernel_rfl) (fun _ _ _ h => h) (Or.inl ⟨by rfl, ?_⟩) hHeld ?_
    rotate_left
    · intro V hSw; have y1 := (Bx.below (unhide A3) hSw).cv; have y2 := (Bx.below (unhide A3) hSw).lt; have z1 := (Bx.below (unhide C3) hSw).cv; have z2 := (Bx.below (unhide C3) hSw).lt; go_simp; rfl
    try simp only [Act.put, List.getElem_toArray, List.getElem_cons_succ, List.getElem_cons_zero, List.setIfInBounds_toArray, List.set_cons_zero, List.set_cons_succ]
    refine wpAnyH_take (i := 2) (v := ?_) rfl (by kernel_rfl) (by kernel_rfl) (by kernel_rfl) (fun _ _ _ h => h) (Or.inl ⟨by rfl, ?_⟩) hHeld ?_
    rotate_left
    · intro V hSw; have y1 := (Bx.below (unhide A3) hSw).cv; have y2 := (Bx.below (unhide A3) hSw).lt; have z1 := (Bx.below (unhide C3) hSw).cv; have z2 := (Bx.below (unhide C3) hSw).lt; go_simp; rfl
    try simp only [Act.put, List.getElem_toArray, List.getElem_cons_succ, List.getElem_cons_zero, List.setIfInBounds_toArray, List.set_cons_zero, List.set_cons_succ]
    refine wpAnyH_take (i := 3) (v := ?_) rfl (by kernel_rfl) (by kernel_rfl) (by kernel_rfl) (fun _ _ _ h => h) (Or.inl ⟨by rfl, ?_⟩) hHeld ?_
    rotate_left
    · intro V hSw; have y1 := (Bx.below (unhide A3) hSw).cv; have y2 := (Bx.below (unhide A3) hSw).lt; have z1 := (Bx.below (unhide C3) hSw).cv; have z2 := (Bx.below (unhide C3) hSw).lt; go_simp; rfl
    try simp only [Act.put, List.getElem_toArray, List.getElem_cons_succ, List.getElem_cons_zero, List.setIfInBounds_toArray, List.set_cons_zero, List.set_cons_succ]
    refine wpAnyH_take (i := 4) (v := ?_) rfl (by kernel_rfl) (by kernel_rfl) (by kernel_rfl) (fun _ _ _ h => h) (Or.inl ⟨by rfl, ?_⟩) hHeld ?_
    rotate_left
    · intro V hSw; have y1 := (Bx.below (unhide A3) hSw).cv; have y2 := (Bx.below (unhide A3) hSw).lt; have z1 := (Bx.below (unhide C3) hSw).cv; have z2 := (Bx.below (unhide C3) hSw).lt; go_simp; rfl
    try simp only [Act.put, List.getElem_toArray, List.getElem_cons_succ, List.getElem_cons_zero, List.setIfInBounds_toArray, List.set_cons_zero, List.set_cons_succ]
    refine wpAnyH_take (i := 5) (v := ?_) rfl (by kernel_rfl) (by kernel_rfl) (by kernel_rfl) (fun _ _ _ h => h) (Or.inl ⟨by rfl, ?_⟩) hHeld ?_
    rotate_left
    · intro V hSw; have y1 := (Bx.below (unhide A3) hSw).cv; have y2 := (Bx.below (unhide A3) hSw).lt; have z1 := (Bx.below (unhide C3) hSw).cv; have z2 := (Bx.below (unhide C3) hSw).lt; go_simp; rfl
    try simp only [Act.put, List.getElem_toArray, List.getElem_cons_succ, List.getElem_cons_zero, List.setIfInBounds_toArray, List.set_cons_zero, List.set_cons_succ]
    refine wpAnyH_ready (rs := [6]) (by kernel_rfl) (by simp) ?_
    refine (AllReadyH.cons rfl (fun K hK => ?_) AllReadyH.nil)
    go_simp
    go_at_call 46
    refine (unhide HPF _).mono ?_
    rintro e w4 ⟨rfl, b4⟩
    refine hK.out _ _ (hHeld.trans (b4.mono hHeld.size)) (fun hHeld => ?_)
    clear hK K
    try simp only [Act.put, List.getElem_toArray, List.getElem_cons_succ, List.getElem_cons_zero, List.setIfInBounds_toArray, List.set_cons_zero, List.set_cons_succ]
    clear b4
    refine wpAnyH_ready (rs := [7]) (by kernel_rfl) (by simp) ?_
    refine (AllReadyH.cons rfl (fun K hK => ?_) AllReadyH.nil)
    go_simp
    go_at_call 45
    refine (unhide HW2 _ ((unhide B3).trans (hHeld.mono (unhide B3).size))).mono ?_
    rintro e w5 ⟨⟨a8, c8, rfl, r8, n8⟩, b5⟩
    have R8 := hide r8
    have sR := (unhide R3).lt
    have sH := hHeld.size
    have N8 : Hid (∀ b o t, a8 = some ⟨b, o, t⟩ → b ≠ W.heap.size ∧ b ≠ W.heap.size + 1 + 1 ∨ P' = []) := fun b o t e => by rcases n8 b o t e with h | h | h <;> first | exact Or.inr h | exact Or.inl (by omega)
    clear r8 n8
    refine hK.out _ _ (hHeld.trans (b5.mono hHeld.size)) (fun hHeld => ?_)
    clear hK K
    try simp only [Act.put, List.getElem_toArray, List.getElem_cons_succ, List.getElem_cons_zero, List.setIfInBounds_toArray, List.set_cons_zero, List.set_cons_succ]
    clear b5
    refine wpAnyH_take (i := 8) (v := ?_) rfl (by kernel_rfl) (by kernel_rfl) (by kernel_rfl) (fun _ _ _ h => h) (Or.inl ⟨by rfl, ?_⟩) hHeld ?_
    rotate_left
    · intro V hSw; go_simp; rfl
    try simp only [Act.put, List.getElem_toArray, List.getElem_cons_succ, List.getElem_cons_zero, List.setIfInBounds_toArray, List.set_cons_zero, List.set_cons_succ]
    refine wpAnyH_done (by kernel_rfl) ?_ _
    refine NoPanic.normal ?_
    have HH := hide hHeld
    clear hHeld
    go_wp2_with fail
    go_meet
    exact ⟨a8, c8, rfl, R8, N8, HH⟩
  case rest =>
  obtain ⟨a8, c8, rfl, R8, N8, H8⟩ := hcut
  have A4 := hide ((unhide A3).below (unhide H8))
  have C4 := hide ((unhide C3).below (unhide H8))
  have R4 := hide ((unhide R3).below (unhide H8))
  have B4 := hide ((unhide B3).trans ((unhide H8).mono (unhide B3).size))
  clear A3 C3 R3 B3 H8 HPF HWW HW2
  obtain ⟨W4, hW4⟩ : ∃ V, V = wc := ⟨_, rfl⟩
  subst hW4
  have x4 := (unhide A4).cv
  have x4l := (unhide A4).lt
  go_upto_region 9 with fail
  by_cases h40 : P'.length ≤ 40
  case neg =>
    have t40 : (40 : Int) < (P'.length : Int) := by omega
    have HK9 : Hid (K = 5) := by show _ = _; rw [unhide HK, if_neg (show ¬ li < e9 by omega)]; simp; omega
    clear HK h40 QYES
    have y2 := (unhide R4).cv
    have y2f := (unhide R4).fz
    have y2l := (unhide R4).lt
    have F4 := hide (st4q (unhide R4) (.int .i64 li) (.int .i64 re) (.int .i64 fi) (.slice a P.length c))
    have B9 := hide ((unhide B4).trans ((unhide F4).2.below (base := W.heap.size) (by have := (unhide R4).lt; omega) (fun q hq => by omega)))
    have c1 := (unhide F4).1.cv
    have FIN := hide (unhide QNO 5 _ (unhide HK9) (by decide) (by decide) (unhide B9))
    go_wp2
    refine bodyPost_ret (v := .tuple #[inflowV ⟨li, re, fi, P⟩ a c, .int .i64 5]) (by simp [results, Try.results37, go_sem, c1]) rfl (unhide FIN)
  have t40 : ¬ (40 : Int) < (P'.length : Int) := by omega
  have HK9 : Hid (K = 0) := by show _ = _; rw [unhide HK, if_neg (show ¬ li < e9 by omega)]; simp; omega
  clear HK QNO h40
  obtain ⟨V5, hV5⟩ : ∃ V, V = W4.setCell ⟨W.heap.size, 3, none⟩ (.slice a8 P'.length c8) := ⟨_, rfl⟩
  have k5 : Kq (fun q => q = W.heap.size) W4 V5 := by rw [hV5]; exact (Kq.refl _ _).set rfl
  have sR := (unhide R4).lt
  have A5 := hide (show Bx V5 W.heap.size [.int .i64 li, .int .i64 re, .int .i64 fi, .slice a8 P'.length c8] by rw [hV5]; exact (unhide A4).set (i := 3) (by simp))
  have C5 := hide (show Bx V5 (W.heap.size + 1) (incC at' d fin) by rw [hV5]; exact (unhide C4).other (by omega))
  have R5 := hide (show Bx V5 (W.heap.size + 1 + 1) inflowZ by rw [hV5]; exact (unhide R4).other (by omega))
  have B5 := hide (show Below W.heap.size W V5 by rw [hV5]; exact (unhide B4).setCell (Nat.le_refl _) _)
  have RD5 := hide ((unhide R8).kz' k5 (fun b o t e => (unhide N8 b o t e).imp (fun h => h.1) id))
  have HV5 := hide hV5
  have z4 := (unhide A4).cv
  have z4f := (unhide A4).fz
  have z4l := (unhide A4).lt
  clear hV5 k5 A4 C4 R4 B4 R8 x4 x4l
  go_upto_region 12 with fail
  rw [← unhide HV5]
  clear HV5 z4 z4f z4l
  have y5 := (unhide C5).cv
  have y5l := (unhide C5).lt
  have FI : Hid (fi = -1 → True) := fun _ => trivial
  cases fin with
  | false =>
    have x5 := (unhide A5).cv
    have x5l := (unhide A5).lt
    have y2 := (unhide R5).cv
    have y2f := (unhide R5).fz
    have y2l := (unhide R5).lt
    have F4 := hide (st4q (unhide R5) (.int .i64 li) (.int .i64 re) (.int .i64 fi) (.slice a8 P'.length c8))
    have B9 := hide ((unhide B5).trans ((unhide F4).2.below (base := W.heap.size) (by have := (unhide R5).lt; omega) (fun q hq => by omega)))
    have c1 := (unhide F4).1.cv
    have RD9 := (unhide RD5).kz' (unhide F4).2 (fun b o t e => (unhide N8 b o t e).imp (fun h => h.2) id)
    have FIN := hide (unhide QYES a8 c8 _ (unhide HK9) RD9 (unhide B9))
    clear RD9
    go_wp2
    refine bodyPost_ret (v := .tuple #[.agg #[.int .i64 li, .int .i64 re, .int .i64 fi, .slice a8 P'.length c8], .int .i64 0]) (by simp [results, Try.results37, go_sem, c1]) rfl (unhide FIN)
  | true =>
    obtain ⟨V6, hV6⟩ : ∃ V, V = V5.setCell ⟨W.heap.size, 2, none⟩ (.int .i64 e9) := ⟨_, rfl⟩
    have k6 : Kq (fun q => q = W.heap.size) V5 V6 := by rw [hV6]; exact (Kq.refl _ _).set rfl
    have A6 := hide (show Bx V6 W.heap.size [.int .i64 li, .int .i64 re, .int .i64 e9, .slice a8 P'.length c8] by rw [hV6]; exact (unhide A5).set (i := 2) (by simp))
    have R6 := hide (show Bx V6 (W.heap.size + 1 + 1) inflowZ by rw [hV6]; exact (unhide R5).other (by omega))
    have B6 := hide (show Below W.heap.size W V6 by rw [hV6]; exact (unhide B5).setCell (Nat.le_refl _) _)
    have RD6 := hide ((unhide RD5).kz' k6 (fun b o t e => (unhide N8 b o t e).imp (fun h => h.1) id))
    have HV6 := hide hV6
    have z5 := (unhide A5).cv
    have z5f := (unhide A5).fz
    have z5l := (unhide A5).lt
    clear hV6 k6
    go_upto_region 14 with fail
    rw [← unhide HV6]
    clear HV6 z5 z5f z5l y5 y5l
    have x6 := (unhide A6).cv
    have x6l := (unhide A6).lt
    have y2 := (unhide R6).cv
    have y2f := (unhide R6).fz
    have y2l := (unhide R6).lt
    have F4 := hide (st4q (unhide R6) (.int .i64 li) (.int .i64 re) (.int .i64 e9) (.slice a8 P'.length c8))
    have B9 := hide ((unhide B6).trans ((unhide F4).2.below (base := W.heap.size) (by have := (unhide R6).lt; omega) (fun q hq => by omega)))
    have c1 := (unhide F4).1.cv
    have RD9 := (unhide RD6).kz' (unhide F4).2 (fun b o t e => (unhide N8 b o t e).imp (fun h => h.2) id)
    have FIN := hide (unhide QYES a8 c8 _ (unhide HK9) RD9 (unhide B9))
    clear RD9
    go_wp2
    refine bodyPost_ret (v := .tuple #[.agg #[.int .i64 li, .int .i64 re, .int .i64 e9, .slice a8 P'.length c8], .int .i64 0]) (by simp [results, Try.results37, go_sem, c1]) rfl (unhide FIN)
end Go.Proofs.Ytmicpknilhiliaa.Rc
