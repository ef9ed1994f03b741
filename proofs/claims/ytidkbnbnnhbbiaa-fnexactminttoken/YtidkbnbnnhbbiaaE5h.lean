/-
  Contracts: the program's hash of blocks.
-/
import Derived.Test.YtidkbnbnnhbbiaaL5h
namespace Go.Proofs.Ytidkbnbnnhbbiaa
open Go.ChangeShapes Go.WideShapes Go.ChangeAt Go.RowKit
set_option linter.unusedVariables false

/-- texts of blocks, one behind the other -/
structure Tx (w : World) (m tb : Nat) (b o len cp st : Nat → Nat) (f : Nat → Nat) : Prop where
  s0 : st 0 = 0
  ln : ∀ i, i < m → 16 * st (i + 1) = 16 * st i + len i
  le : ∀ i, i < m → len i ≤ 4000
  cl : ∀ i, i < m → w.cell? ⟨tb, i, none⟩ = some (.slice (some ⟨b i, o i, none⟩) (len i) (cp i))
  cp : ∀ i, i < m → len i ≤ cp i
  ar : ∀ i, i < m → Ar w (b i) (o i) (len i) (fun j => f (16 * st i + j))
  lt : tb < w.heap.size
theorem Tx.below {w w' : World} {m tb : Nat} {b o len cp st f : Nat → Nat} (h : Tx w m tb b o len cp st f) (hb : Below w.heap.size w w') : Tx w' m tb b o len cp st f :=
  ⟨h.s0, h.ln, h.le, fun i hi => by rw [hb.cell (p := ⟨tb, i, none⟩) h.lt]; exact h.cl i hi, h.cp, fun i hi => (h.ar i hi).below hb (h.ar i hi).lt, Nat.lt_of_lt_of_le h.lt hb.size⟩
set_option maxRecDepth 100000 in
set_option maxHeartbeats 1000000 in
theorem implHashOf (kh kl : Nat) (hkh : kh < 18446744073709551616) (hkl : kl < 18446744073709551616) (m tb tc : Nat) (b o len cp st : Nat → Nat) (f : Nat → Nat) (hf : ∀ i, f i < 256) (hm : m ≤ 3) (w : World) (hT : Tx w m tb b o len cp st f) :
    Calls Try.prog 38 #[.agg #[.int .u64 (kh : Nat), .int .u64 (kl : Nat)], .slice (some ⟨tb, 0, none⟩) m tc] w fun e w' => e = .returned (.agg #[.int .u64 ((ghF kh kl f (st m)).1 : Nat), .int .u64 ((ghF kh kl f (st m)).2 : Nat)]) ∧ Below w.heap.size w w' := by
  have HG := hide (fun j => ghF_lt kh kl f hkh hkl j)
  have HB1 := hide (fun j => bkH_lt f hf j)
  have HB2 := hide (fun j => bkL_lt f hf j)
  have HS : Hid (∀ j, ghF kh kl f (j + 1) = ouP ((ghF kh kl f j).1 ^^^ bkH f j) ((ghF kh kl f j).2 ^^^ bkL f j) kh kl 128) := fun j => rfl
  have HZ : Hid (ghF kh kl f 0 = (0, 0)) := rfl
  have HEO : Hid (∀ bb oo nn cc j : Nat, 16 ≤ nn → nn ≤ 4000 → ∀ W : World, Ar W bb oo 16 (fun i => f (16 * j + i)) → Calls Try.prog 36 #[.slice (some ⟨bb, oo, none⟩) nn cc] W fun e w' => e = .returned (.agg #[.int .u64 (bkH f j : Nat), .int .u64 (bkL f j : Nat)]) ∧ Below W.heap.size W w') := fun bb oo nn cc j h1 h2 W hA => implElementOf bb oo nn cc (fun i => f (16 * j + i)) (fun i => hf _) h1 (by omega) W hA
  generalize ghF kh kl f = GH at *
  generalize bkH f = BH at *
  generalize bkL f = BL at *
  have HT := hide hT
  clear hT
  go_enter Try.func38, Try.ntmps38
  go_wp2_with fail
  have d0 := q2_own w kh kl 52
  have e0 := (Below.refl w.heap.size w).alloc (Nat.le_refl _) (.cells #[.int .u64 (kh : Nat), .int .u64 (kl : Nat)] 52)
  have z0 : (w.alloc (.cells #[.int .u64 (kh : Nat), .int .u64 (kl : Nat)] 52)).heap.size = w.heap.size + 1 := by simp
  generalize w.alloc (.cells #[.int .u64 (kh : Nat), .int .u64 (kl : Nat)] 52) = W0 at d0 e0 z0 ⊢
  have d1 : Q2 (W0.alloc (.cells #[.int .u64 0, .int .u64 0] 52)) W0.heap.size 0 0 := q2_own W0 0 0 _
  have d0' := d0.alloc (.cells #[.int .u64 0, .int .u64 0] 52) (by omega)
  have e1 := e0.alloc (by omega) (.cells #[.int .u64 0, .int .u64 0] 52)
  have z1 : (W0.alloc (.cells #[.int .u64 0, .int .u64 0] 52)).heap.size = w.heap.size + 1 + 1 := by simp [z0]
  rw [z0] at d1
  generalize W0.alloc (.cells #[.int .u64 0, .int .u64 0] 52) = W1 at d0' d1 e1 z1 ⊢
  have d2 : Q2 (W1.alloc (.cells #[.int .u64 0, .int .u64 0] 52)) W1.heap.size 0 0 := q2_own W1 0 0 _
  have f0 := hide (d0'.alloc (.cells #[.int .u64 0, .int .u64 0] 52) (by omega))
  have f1 := hide (d1.alloc (.cells #[.int .u64 0, .int .u64 0] 52) (by omega))
  have e2 := hide (e1.alloc (by omega) (.cells #[.int .u64 0, .int .u64 0] 52))
  have z2 : Hid ((W1.alloc (.cells #[.int .u64 0, .int .u64 0] 52)).heap.size = w.heap.size + 1 + 1 + 1) := by rw [World.size_alloc, z1]; exact rfl
  rw [z1] at d2
  have f2 := hide d2
  generalize W1.alloc (.cells #[.int .u64 0, .int .u64 0] 52) = W2 at f0 f1 f2 e2 z2 ⊢
  clear d0 e0 z0 d1 d0' e1 z1 d2
  go_loopw [11] (fun iv wr => ∃ i : Nat, i ≤ m ∧ iv = .int .i64 i ∧ Q2 wr w.heap.size kh kl ∧ Q2 wr (w.heap.size + 1) 0 0 ∧ Q2 wr (w.heap.size + 1 + 1) (GH (st i)).1 (GH (st i)).2 ∧ w.heap.size + 1 + 1 < wr.heap.size ∧ Below w.heap.size w wr) (fun iv _ => m - (intOf iv).toNat)
  case atStart => exact ⟨0, by omega, rfl, unhide f0, unhide f1, by rw [(unhide HT).s0, unhide HZ]; exact unhide f2, by rw [unhide z2]; exact Nat.lt_succ_self _, unhide e2⟩
  case round =>
    obtain ⟨i, hi, rfl, q0, q1, q2, hz, hB⟩ := hrel
    clear f0 f1 f2 e2 z2
    by_cases hlt : i < m
    · have ht := (unhide HT).below hB
      have hcl := ht.cl i hlt
      have hln := ht.ln i hlt
      have hle := ht.le i hlt
      have hcp := ht.cp i hlt
      have R0 := hide q0
      have R1 := hide q1
      have R2 := hide q2
      have RB := hide hB
      have hAR := hide ((unhide HT).ar i hlt)
      have hn1 : (0 : Int) ≤ (i : Int) ∧ (i : Int) < m := by omega
      have HSI := hide (rfl : st i = st i)
      have HLN := hide hln
      clear q0 q1 q2 hB ht hln
      generalize b i = bb at *
      generalize o i = oo at *
      generalize len i = ll at *
      generalize cp i = cc at *
      generalize hsi : st i = si at *
      generalize hsj : st (i + 1) = sj at *
      have HSJ := hide hsj
      clear HSI hsj hsi
      go_wp2_with fail
      generalize decide ((i : Int) < (m : Int)) = di
      go_loopw [8] (fun av wr => ∃ j a : Nat, a = 16 * j ∧ a ≤ ll ∧ av = .int .i64 a ∧ Q2 wr w.heap.size kh kl ∧ Q2 wr (w.heap.size + 1) 0 0 ∧ Q2 wr (w.heap.size + 1 + 1) (GH (si + j)).1 (GH (si + j)).2 ∧ w.heap.size + 1 + 1 < wr.heap.size ∧ Below w.heap.size w wr) (fun av _ => 20000 - (intOf av).toNat)
      case atStart => exact ⟨0, 0, rfl, by omega, rfl, unhide R0, unhide R1, unhide R2, hz, unhide RB⟩
      case round =>
        obtain ⟨j, a, ha, hal, rfl, q0, q1, q2, hz, hB⟩ := hrel
        clear R0 R1 R2 RB
        by_cases hla : a < ll
        · have hl16 : a + 16 ≤ ll := by have := unhide HLN; omega
          have hAW := ((unhide hAR).below hB (unhide hAR).lt).part a 16 hl16
          have hAD := hAW.drew.congr (g := fun i => f (16 * (si + j) + i)) (fun i _ => by congr 1; omega)
          have hca : ¬ cc = a := by omega
          have HE := hide (unhide HEO bb (oo + a) (ll - a) (cc - a) (si + j) (by omega) (by omega) _ hAD)
          have hl1 := unhide HG (si + j)
          have hl2 := unhide HB1 (si + j)
          have hl3 := unhide HB2 (si + j)
          have HX := hide (fun W => implXorE (GH (si + j)).1 (GH (si + j)).2 (BH (si + j)) (BL (si + j)) hl1.1 hl1.2 hl2 hl3 W)
          have HM := hide (fun W => implTimes ((GH (si + j)).1 ^^^ BH (si + j)) ((GH (si + j)).2 ^^^ BL (si + j)) kh kl (Nat.xor_lt_two_pow (n := 64) hl1.1 hl2) (Nat.xor_lt_two_pow (n := 64) hl1.2 hl3) hkh hkl W)
          rw [← unhide HS (si + j)] at HM
          have S0 : Hid (wr.drew.cell? ⟨w.heap.size, 0, none⟩ = some (.int .u64 (kh : Nat)) ∧ wr.drew.cell? ⟨w.heap.size, 1, none⟩ = some (.int .u64 (kl : Nat))) := ⟨q0.c0, q0.c1⟩
          have KQ : Hid (∀ V, Below wr.drew.heap.size wr.drew V → V.cell? ⟨w.heap.size, 0, none⟩ = some (.int .u64 (kh : Nat)) ∧ V.cell? ⟨w.heap.size, 1, none⟩ = some (.int .u64 (kl : Nat))) := fun V hV => by
            have y := q0.drew.keep hV (by simp; omega)
            exact ⟨y.c0, y.c1⟩
          have KY : Hid (∀ V, Below wr.drew.heap.size wr.drew V → Q2 V (w.heap.size + 1 + 1) (GH (si + j)).1 (GH (si + j)).2) := fun V hV => q2.drew.keep hV (by simpa using hz)
          have KS : Hid (∀ V, Below wr.drew.heap.size wr.drew V → ((V.setCell ⟨w.heap.size + 1 + 1, 0, none⟩ (.int .u64 ((GH (si + j + 1)).1 : Nat))).setCell ⟨w.heap.size + 1 + 1, 1, none⟩ (.int .u64 ((GH (si + j + 1)).2 : Nat))).cell? ⟨w.heap.size, 0, none⟩ = some (.int .u64 (kh : Nat)) ∧ ((V.setCell ⟨w.heap.size + 1 + 1, 0, none⟩ (.int .u64 ((GH (si + j + 1)).1 : Nat))).setCell ⟨w.heap.size + 1 + 1, 1, none⟩ (.int .u64 ((GH (si + j + 1)).2 : Nat))).cell? ⟨w.heap.size, 1, none⟩ = some (.int .u64 (kl : Nat))) := fun V hV => by
            have y := ((q0.drew.keep hV (by simp; omega)).other (b' := w.heap.size + 1 + 1) (k := 0) (v := .int .u64 ((GH (si + j + 1)).1 : Nat)) (by omega)).other (b' := w.heap.size + 1 + 1) (k := 1) (v := .int .u64 ((GH (si + j + 1)).2 : Nat)) (by omega)
            exact ⟨y.c0, y.c1⟩
          have k0 := q2.drew.c0
          have k1 := q2.drew.c1
          have R0 := hide q0.drew
          have R1 := hide q1.drew
          have R2 := hide q2.drew
          have RB := hide hB.drew
          have hzd : w.heap.size + 1 + 1 < wr.drew.heap.size := by simpa using hz
          have HAJ := hide ha
          have hGS : Hid (si + (j + 1) = si + j + 1) := rfl
          clear ha q0 q1 q2 hB hAW hAD hl1 hl2 hl3
          generalize hG1 : GH (si + j + 1) = G1 at *
          have HG1 := hide hG1
          clear hG1
          generalize (GH (si + j)).1 = Y1 at *
          generalize (GH (si + j)).2 = Y2 at *
          generalize BH (si + j) = X1 at *
          generalize BL (si + j) = X2 at *
          have v1 : (0 : Int) ≤ (a : Int) ∧ (a : Int) ≤ (ll : Int) := by omega
          go_wp2_with fail
          refine wp_region_held_drew (S := fun V => V.cell? ⟨w.heap.size, 0, none⟩ = some (.int .u64 (kh : Nat)) ∧ V.cell? ⟨w.heap.size, 1, none⟩ = some (.int .u64 (kl : Nat))) (by kernel_rfl) (unhide S0) (fun hHeld => ?_)
          refine wpAnyH_take (i := 1) (v := ?_) rfl (by kernel_rfl) (by kernel_rfl) (by kernel_rfl) (fun _ _ _ h => h) (Or.inl ⟨by rfl, ?_⟩) hHeld ?_
          rotate_left
          · intro V hSw; go_simp; rfl
          simp only [Act.put, List.getElem_toArray, List.getElem_cons_succ, List.getElem_cons_zero, List.setIfInBounds_toArray, List.set_cons_zero, List.set_cons_succ]
          refine wpAnyH_take (i := 2) (v := ?_) rfl (by kernel_rfl) (by kernel_rfl) (by kernel_rfl) (fun _ _ _ h => h) (Or.inl ⟨by rfl, ?_⟩) hHeld ?_
          rotate_left
          · intro V hSw; go_simp; rfl
          simp only [Act.put, List.getElem_toArray, List.getElem_cons_succ, List.getElem_cons_zero, List.setIfInBounds_toArray, List.set_cons_zero, List.set_cons_succ]
          refine wpAnyH_take (i := 3) (v := ?_) rfl (by kernel_rfl) (by kernel_rfl) (by kernel_rfl) (fun _ _ _ h => h) (Or.inl ⟨by rfl, ?_⟩) hHeld ?_
          rotate_left
          · intro V hSw; go_simp; rfl
          simp only [Act.put, List.getElem_toArray, List.getElem_cons_succ, List.getElem_cons_zero, List.setIfInBounds_toArray, List.set_cons_zero, List.set_cons_succ]
          refine wpAnyH_take (i := 6) (v := ?_) rfl (by kernel_rfl) (by kernel_rfl) (by kernel_rfl) (fun _ _ _ h => h) (Or.inl ⟨by rfl, ?_⟩) hHeld ?_
          rotate_left
          · intro V hSw; go_simp; rfl
          simp only [Act.put, List.getElem_toArray, List.getElem_cons_succ, List.getElem_cons_zero, List.setIfInBounds_toArray, List.set_cons_zero, List.set_cons_succ]
          refine wpAnyH_ready (rs := [0, 4]) (by kernel_rfl) (by simp) ?_
          refine AllReadyH.cons rfl (fun K hK => ?_) (AllReadyH.cons rfl (fun K hK => ?_) AllReadyH.nil)
          · go_simp
            refine hK.out _ _ (hHeld) (fun hHeld => ?_)
            clear hK K
            try simp only [Act.put, List.getElem_toArray, List.getElem_cons_succ, List.getElem_cons_zero, List.setIfInBounds_toArray, List.set_cons_zero, List.set_cons_succ]
            refine wpAnyH_ready (rs := [4]) (by kernel_rfl) (by simp) ?_
            refine AllReadyH.cons rfl (fun K hK => ?_) AllReadyH.nil
            go_simp
            go_at_call 36
            with_reducible refine (unhide HE).mono ?_
            rintro e w9 ⟨rfl, b9⟩
            refine hK.out _ _ (unhide KQ _ b9) (fun hHeld => ?_)
            clear hK K
            try simp only [Act.put, List.getElem_toArray, List.getElem_cons_succ, List.getElem_cons_zero, List.setIfInBounds_toArray, List.set_cons_zero, List.set_cons_succ]
            refine wpAnyH_ready (rs := [5]) (by kernel_rfl) (by simp) ?_
            refine AllReadyH.cons rfl (fun K hK => ?_) AllReadyH.nil
            go_simp
            go_at_call 55
            with_reducible refine (unhide HX _).mono ?_
            rintro e w10 ⟨rfl, b10⟩
            refine hK.out _ _ (unhide KQ _ (b9.trans (b10.mono b9.size))) (fun hHeld => ?_)
            clear hK K
            try simp only [Act.put, List.getElem_toArray, List.getElem_cons_succ, List.getElem_cons_zero, List.setIfInBounds_toArray, List.set_cons_zero, List.set_cons_succ]
            refine wpAnyH_ready (rs := [7]) (by kernel_rfl) (by simp) ?_
            refine AllReadyH.cons rfl (fun K hK => ?_) AllReadyH.nil
            go_simp
            go_at_call 56
            with_reducible refine (unhide HM _).mono ?_
            rintro e w11 ⟨rfl, b11⟩
            have B11 := (b9.trans (b10.mono b9.size)).trans (b11.mono (b9.trans (b10.mono b9.size)).size)
            have m0 := (unhide KY _ B11).c0
            have m1 := (unhide KY _ B11).c1
            have m2 := (unhide KY _ B11).f0
            have m3 := (unhide KY _ B11).f1
            refine hK.out _ _ (unhide KQ _ B11) (fun hHeld => ?_)
            clear hK K
            try simp only [Act.put, List.getElem_toArray, List.getElem_cons_succ, List.getElem_cons_zero, List.setIfInBounds_toArray, List.set_cons_zero, List.set_cons_succ]
            refine wpAnyH_ready (rs := [8]) (by kernel_rfl) (by simp) ?_
            refine AllReadyH.cons rfl (fun K hK => ?_) AllReadyH.nil
            go_simp
            refine hK.out _ _ (unhide KS _ B11) (fun hHeld => ?_)
            clear hK K
            try simp only [Act.put, List.getElem_toArray, List.getElem_cons_succ, List.getElem_cons_zero, List.setIfInBounds_toArray, List.set_cons_zero, List.set_cons_succ]
            refine wpAnyH_done (by kernel_rfl) ?_ _
            have b2 := hide B11
            have T0 := hide ((((unhide R0).keep B11 (by omega)).other (b' := w.heap.size + 1 + 1) (k := 0) (v := .int .u64 (G1.1 : Nat)) (by omega)).other (b' := w.heap.size + 1 + 1) (k := 1) (v := .int .u64 (G1.2 : Nat)) (by omega))
            have T1 := hide ((((unhide R1).keep B11 (by omega)).other (b' := w.heap.size + 1 + 1) (k := 0) (v := .int .u64 (G1.1 : Nat)) (by omega)).other (b' := w.heap.size + 1 + 1) (k := 1) (v := .int .u64 (G1.2 : Nat)) (by omega))
            have T2 := hide ((((unhide R2).keep B11 (by omega)).put0 G1.1).put1 G1.2)
            have TB := hide ((((unhide RB).trans (B11.mono (unhide RB).size)).setCell (p := ⟨w.heap.size + 1 + 1, 0, none⟩) (show w.heap.size ≤ w.heap.size + 1 + 1 by omega) (.int .u64 (G1.1 : Nat))).setCell (p := ⟨w.heap.size + 1 + 1, 1, none⟩) (show w.heap.size ≤ w.heap.size + 1 + 1 by omega) (.int .u64 (G1.2 : Nat)))
            have hz6 : Hid (w.heap.size + 1 + 1 < ((w11.setCell ⟨w.heap.size + 1 + 1, 0, none⟩ (.int .u64 (G1.1 : Nat))).setCell ⟨w.heap.size + 1 + 1, 1, none⟩ (.int .u64 (G1.2 : Nat))).heap.size) := by
              have := B11.size
              simp only [World.setCell, Array.size_modify]
              exact Nat.lt_of_lt_of_le hzd this
            clear b9 b10 b11 B11 m0 m1 m2 m3 hHeld
            go_wp2
            exact ⟨⟨j + 1, a + 16, by have := unhide HAJ; omega, by omega, by go_num, unhide T0, unhide T1, by rw [unhide hGS, unhide HG1]; exact unhide T2, unhide hz6, unhide TB⟩, by simp [intOf]; omega⟩
          · go_simp
            go_at_call 36
            with_reducible refine (unhide HE).mono ?_
            rintro e w9 ⟨rfl, b9⟩
            have l0 := (unhide KY _ b9).c0
            have l1 := (unhide KY _ b9).c1
            refine hK.out _ _ (unhide KQ _ b9) (fun hHeld => ?_)
            clear hK K
            try simp only [Act.put, List.getElem_toArray, List.getElem_cons_succ, List.getElem_cons_zero, List.setIfInBounds_toArray, List.set_cons_zero, List.set_cons_succ]
            refine wpAnyH_ready (rs := [0]) (by kernel_rfl) (by simp) ?_
            refine AllReadyH.cons rfl (fun K hK => ?_) AllReadyH.nil
            go_simp
            refine hK.out _ _ (hHeld) (fun hHeld => ?_)
            clear hK K
            try simp only [Act.put, List.getElem_toArray, List.getElem_cons_succ, List.getElem_cons_zero, List.setIfInBounds_toArray, List.set_cons_zero, List.set_cons_succ]
            refine wpAnyH_ready (rs := [5]) (by kernel_rfl) (by simp) ?_
            refine AllReadyH.cons rfl (fun K hK => ?_) AllReadyH.nil
            go_simp
            go_at_call 55
            with_reducible refine (unhide HX _).mono ?_
            rintro e w10 ⟨rfl, b10⟩
            refine hK.out _ _ (unhide KQ _ (b9.trans (b10.mono b9.size))) (fun hHeld => ?_)
            clear hK K
            try simp only [Act.put, List.getElem_toArray, List.getElem_cons_succ, List.getElem_cons_zero, List.setIfInBounds_toArray, List.set_cons_zero, List.set_cons_succ]
            refine wpAnyH_ready (rs := [7]) (by kernel_rfl) (by simp) ?_
            refine AllReadyH.cons rfl (fun K hK => ?_) AllReadyH.nil
            go_simp
            go_at_call 56
            with_reducible refine (unhide HM _).mono ?_
            rintro e w11 ⟨rfl, b11⟩
            have B11 := (b9.trans (b10.mono b9.size)).trans (b11.mono (b9.trans (b10.mono b9.size)).size)
            have m0 := (unhide KY _ B11).c0
            have m1 := (unhide KY _ B11).c1
            have m2 := (unhide KY _ B11).f0
            have m3 := (unhide KY _ B11).f1
            refine hK.out _ _ (unhide KQ _ B11) (fun hHeld => ?_)
            clear hK K
            try simp only [Act.put, List.getElem_toArray, List.getElem_cons_succ, List.getElem_cons_zero, List.setIfInBounds_toArray, List.set_cons_zero, List.set_cons_succ]
            refine wpAnyH_ready (rs := [8]) (by kernel_rfl) (by simp) ?_
            refine AllReadyH.cons rfl (fun K hK => ?_) AllReadyH.nil
            go_simp
            refine hK.out _ _ (unhide KS _ B11) (fun hHeld => ?_)
            clear hK K
            try simp only [Act.put, List.getElem_toArray, List.getElem_cons_succ, List.getElem_cons_zero, List.setIfInBounds_toArray, List.set_cons_zero, List.set_cons_succ]
            refine wpAnyH_done (by kernel_rfl) ?_ _
            have b2 := hide B11
            have T0 := hide ((((unhide R0).keep B11 (by omega)).other (b' := w.heap.size + 1 + 1) (k := 0) (v := .int .u64 (G1.1 : Nat)) (by omega)).other (b' := w.heap.size + 1 + 1) (k := 1) (v := .int .u64 (G1.2 : Nat)) (by omega))
            have T1 := hide ((((unhide R1).keep B11 (by omega)).other (b' := w.heap.size + 1 + 1) (k := 0) (v := .int .u64 (G1.1 : Nat)) (by omega)).other (b' := w.heap.size + 1 + 1) (k := 1) (v := .int .u64 (G1.2 : Nat)) (by omega))
            have T2 := hide ((((unhide R2).keep B11 (by omega)).put0 G1.1).put1 G1.2)
            have TB := hide ((((unhide RB).trans (B11.mono (unhide RB).size)).setCell (p := ⟨w.heap.size + 1 + 1, 0, none⟩) (show w.heap.size ≤ w.heap.size + 1 + 1 by omega) (.int .u64 (G1.1 : Nat))).setCell (p := ⟨w.heap.size + 1 + 1, 1, none⟩) (show w.heap.size ≤ w.heap.size + 1 + 1 by omega) (.int .u64 (G1.2 : Nat)))
            have hz6 : Hid (w.heap.size + 1 + 1 < ((w11.setCell ⟨w.heap.size + 1 + 1, 0, none⟩ (.int .u64 (G1.1 : Nat))).setCell ⟨w.heap.size + 1 + 1, 1, none⟩ (.int .u64 (G1.2 : Nat))).heap.size) := by
              have := B11.size
              simp only [World.setCell, Array.size_modify]
              exact Nat.lt_of_lt_of_le hzd this
            clear b9 b10 b11 B11 m0 m1 m2 m3 hHeld
            go_wp2
            exact ⟨⟨j + 1, a + 16, by have := unhide HAJ; omega, by omega, by go_num, unhide T0, unhide T1, by rw [unhide hGS, unhide HG1]; exact unhide T2, unhide hz6, unhide TB⟩, by simp [intOf]; omega⟩
        · have hae : a = ll := by omega
          have hL := unhide HLN
          have hsj : si + j = sj := by omega
          rw [hsj] at q2
          have R0 := hide q0
          have R1 := hide q1
          have R2 := hide q2
          have RB := hide hB
          have hna : ¬ (a : Int) < (ll : Int) := by omega
          clear q0 q1 q2 hB hae hL hsj ha
          go_wp2
          exact ⟨⟨i + 1, by omega, by go_num, unhide R0, unhide R1, by rw [unhide HSJ]; exact unhide R2, hz, unhide RB⟩, by simp [intOf]; omega⟩
    · obtain rfl : i = m := by omega
      have c0 := q2.c0
      have c1 := q2.c1
      have g0 := q1.f0
      have g1 := q1.f1
      have k0 := q1.c0
      have k1 := q1.c1
      have R := hide ((q1.put0 (GH (st i)).1).put1 (GH (st i)).2)
      have B := hide ((hB.setCell (p := ⟨w.heap.size + 1, 0, none⟩) (show w.heap.size ≤ w.heap.size + 1 by omega) (.int .u64 ((GH (st i)).1 : Nat))).setCell (p := ⟨w.heap.size + 1, 1, none⟩) (show w.heap.size ≤ w.heap.size + 1 by omega) (.int .u64 ((GH (st i)).2 : Nat)))
      clear q0 q1 q2 hB
      go_wp2
      refine ret_two 4 (w.heap.size + 1) (GH (st i)).1 (GH (st i)).2 52 _ ?r1 ?r2 ?r3 (unhide R) Try.underlying52 rfl info_el ?_
      case r1 => rfl
      case r2 => rfl
      case r3 => rfl
      exact ⟨rfl, unhide B⟩
end Go.Proofs.Ytidkbnbnnhbbiaa
