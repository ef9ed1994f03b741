/-
  Contracts: the program's hash of blocks. Contracts: the program's texts filled up. Contracts: the program's key that seals. Contracts: the program's tag.
-/
import Derived.Test.YtkpodgeinanceaaL5h
import Derived.Test.YtkpodgeinanceaaSprX
import Derived.Test.YtkpodgeinanceaaAct
import Derived.Test.YtkpodgeinanceaaWtn
namespace Go.Proofs.Ytkpodgeinanceaa
open Go.ChangeShapes Go.WideShapes Go.ChangeAt Go.RowKit
set_option linter.unusedVariables false

/-- texts of blocks, one behind the other -/
structure Tx (w : World) (m tb : Nat) (b o len cp st : Nat → Nat) (f : Nat → Nat) : Prop where
  s0 : st 0 = 0
  ln : ∀ i, i < m → 16 * st (i + 1) = 16 * st i + len i
  le : ∀ i, i < m → len i ≤ 4000
  cl : ∀ i, i < m → w.cell? ⟨tb, i, none⟩ = some (.slice (some ⟨b i, o i, none⟩) (len i) (cp i))
  cp : ∀ i, i < m → len i ≤ cp i
  ar : ∀ i, i < m → Ar w (b i) (o i) (len i) (fun j => f (16 * st i + j))
  lt : tb < w.heap.size
theorem Tx.below {w w' : World} {m tb : Nat} {b o len cp st f : Nat → Nat} (h : Tx w m tb b o len cp st f) (hb : Below w.heap.size w w') : Tx w' m tb b o len cp st f :=
  ⟨h.s0, h.ln, h.le, fun i hi => by rw [hb.cell (p := ⟨tb, i, none⟩) h.lt]; exact h.cl i hi, h.cp, fun i hi => (h.ar i hi).below hb (h.ar i hi).lt, Nat.lt_of_lt_of_le h.lt hb.size⟩
set_option maxRecDepth 100000 in
set_option maxHeartbeats 1000000 in
theorem implHashOf (kh kl : Nat) (hkh : kh < 18446744073709551616) (hkl : kl < 18446744073709551616) (m tb tc : Nat) (b o len cp st : Nat → Nat) (f : Nat → Nat) (hf : ∀ i, f i < 256) (hm : m ≤ 3) (w : World) (hT : Tx w m tb b o len cp st f) :
    Calls Try.prog 69 #[.agg #[.int .u64 (kh : Nat), .int .u64 (kl : Nat)], .slice (some ⟨tb, 0, none⟩) m tc] w fun e w' => e = .returned (.agg #[.int .u64 ((ghF kh kl f (st m)).1 : Nat), .int .u64 ((ghF kh kl f (st m)).2 : Nat)]) ∧ Below w.heap.size w w' := by
  have HG := hide (fun j => ghF_lt kh kl f hkh hkl j)
  have HB1 := hide (fun j => bkH_lt f hf j)
  have HB2 := hide (fun j => bkL_lt f hf j)
  have HS : Hid (∀ j, ghF kh kl f (j + 1) = ouP ((ghF kh kl f j).1 ^^^ bkH f j) ((ghF kh kl f j).2 ^^^ bkL f j) kh kl 128) := fun j => rfl
  have HZ : Hid (ghF kh kl f 0 = (0, 0)) := rfl
  have HEO : Hid (∀ bb oo nn cc j : Nat, 16 ≤ nn → nn ≤ 4000 → ∀ W : World, Ar W bb oo 16 (fun i => f (16 * j + i)) → Calls Try.prog 67 #[.slice (some ⟨bb, oo, none⟩) nn cc] W fun e w' => e = .returned (.agg #[.int .u64 (bkH f j : Nat), .int .u64 (bkL f j : Nat)]) ∧ Below W.heap.size W w') := fun bb oo nn cc j h1 h2 W hA => implElementOf bb oo nn cc (fun i => f (16 * j + i)) (fun i => hf _) h1 (by omega) W hA
  generalize ghF kh kl f = GH at *
  generalize bkH f = BH at *
  generalize bkL f = BL at *
  have HT := hide hT
  clear hT
  go_enter Try.func69, Try.ntmps69
  go_wp2_with fail
  have d0 := q2_own w kh kl 82
  have e0 := (Below.refl w.heap.size w).alloc (Nat.le_refl _) (.cells #[.int .u64 (kh : Nat), .int .u64 (kl : Nat)] 82)
  have z0 : (w.alloc (.cells #[.int .u64 (kh : Nat), .int .u64 (kl : Nat)] 82)).heap.size = w.heap.size + 1 := by simp
  generalize w.alloc (.cells #[.int .u64 (kh : Nat), .int .u64 (kl : Nat)] 82) = W0 at d0 e0 z0 ⊢
  have d1 : Q2 (W0.alloc (.cells #[.int .u64 0, .int .u64 0] 82)) W0.heap.size 0 0 := q2_own W0 0 0 _
  have d0' := d0.alloc (.cells #[.int .u64 0, .int .u64 0] 82) (by omega)
  have e1 := e0.alloc (by omega) (.cells #[.int .u64 0, .int .u64 0] 82)
  have z1 : (W0.alloc (.cells #[.int .u64 0, .int .u64 0] 82)).heap.size = w.heap.size + 1 + 1 := by simp [z0]
  rw [z0] at d1
  generalize W0.alloc (.cells #[.int .u64 0, .int .u64 0] 82) = W1 at d0' d1 e1 z1 ⊢
  have d2 : Q2 (W1.alloc (.cells #[.int .u64 0, .int .u64 0] 82)) W1.heap.size 0 0 := q2_own W1 0 0 _
  have f0 := hide (d0'.alloc (.cells #[.int .u64 0, .int .u64 0] 82) (by omega))
  have f1 := hide (d1.alloc (.cells #[.int .u64 0, .int .u64 0] 82) (by omega))
  have e2 := hide (e1.alloc (by omega) (.cells #[.int .u64 0, .int .u64 0] 82))
  have z2 : Hid ((W1.alloc (.cells #[.int .u64 0, .int .u64 0] 82)).heap.size = w.heap.size + 1 + 1 + 1) := by rw [World.size_alloc, z1]; exact rfl
  rw [z1] at d2
  have f2 := hide d2
  generalize W1.alloc (.cells #[.int .u64 0, .int .u64 0] 82) = W2 at f0 f1 f2 e2 z2 ⊢
  clear d0 e0 z0 d1 d0' e1 z1 d2
  go_loopw [11] (fun iv wr => ∃ i : Nat, i ≤ m ∧ iv = .int .i64 i ∧ Q2 wr w.heap.size kh kl ∧ Q2 wr (w.heap.size + 1) 0 0 ∧ Q2 wr (w.heap.size + 1 + 1) (GH (st i)).1 (GH (st i)).2 ∧ w.heap.size + 1 + 1 < wr.heap.size ∧ Below w.heap.size w wr) (fun iv _ => m - (intOf iv).toNat)
  case atStart => exact ⟨0, by omega, rfl, unhide f0, unhide f1, by rw [(unhide HT).s0, unhide HZ]; exact unhide f2, by rw [unhide z2]; exact Nat.lt_succ_self _, unhide e2⟩
  case round =>
    obtain ⟨i, hi, rfl, q0, q1, q2, hz, hB⟩ := hrel
    clear f0 f1 f2 e2 z2
    by_cases hlt : i < m
    · have ht := (unhide HT).below hB
      have hcl := ht.cl i hlt
      have hln := ht.ln i hlt
      have hle := ht.le i hlt
      have hcp := ht.cp i hlt
      have R0 := hide q0
      have R1 := hide q1
      have R2 := hide q2
      have RB := hide hB
      have hAR := hide ((unhide HT).ar i hlt)
      have hn1 : (0 : Int) ≤ (i : Int) ∧ (i : Int) < m := by omega
      have HSI := hide (rfl : st i = st i)
      have HLN := hide hln
      clear q0 q1 q2 hB ht hln
      generalize b i = bb at *
      generalize o i = oo at *
      generalize len i = ll at *
      generalize cp i = cc at *
      generalize hsi : st i = si at *
      generalize hsj : st (i + 1) = sj at *
      have HSJ := hide hsj
      clear HSI hsj hsi
      go_wp2_with fail
      generalize decide ((i : Int) < (m : Int)) = di
      go_loopw [8] (fun av wr => ∃ j a : Nat, a = 16 * j ∧ a ≤ ll ∧ av = .int .i64 a ∧ Q2 wr w.heap.size kh kl ∧ Q2 wr (w.heap.size + 1) 0 0 ∧ Q2 wr (w.heap.size + 1 + 1) (GH (si + j)).1 (GH (si + j)).2 ∧ w.heap.size + 1 + 1 < wr.heap.size ∧ Below w.heap.size w wr) (fun av _ => 20000 - (intOf av).toNat)
      case atStart => exact ⟨0, 0, rfl, by omega, rfl, unhide R0, unhide R1, unhide R2, hz, unhide RB⟩
      case round =>
        obtain ⟨j, a, ha, hal, rfl, q0, q1, q2, hz, hB⟩ := hrel
        clear R0 R1 R2 RB
        by_cases hla : a < ll
        · have hl16 : a + 16 ≤ ll := by have := unhide HLN; omega
          have hAW := ((unhide hAR).below hB (unhide hAR).lt).part a 16 hl16
          have hAD := hAW.drew.congr (g := fun i => f (16 * (si + j) + i)) (fun i _ => by congr 1; omega)
          have hca : ¬ cc = a := by omega
          have HE := hide (unhide HEO bb (oo + a) (ll - a) (cc - a) (si + j) (by omega) (by omega) _ hAD)
          have hl1 := unhide HG (si + j)
          have hl2 := unhide HB1 (si + j)
          have hl3 := unhide HB2 (si + j)
          have HX := hide (fun W => implXorE (GH (si + j)).1 (GH (si + j)).2 (BH (si + j)) (BL (si + j)) hl1.1 hl1.2 hl2 hl3 W)
          have HM := hide (fun W => implTimes ((GH (si + j)).1 ^^^ BH (si + j)) ((GH (si + j)).2 ^^^ BL (si + j)) kh kl (Nat.xor_lt_two_pow (n := 64) hl1.1 hl2) (Nat.xor_lt_two_pow (n := 64) hl1.2 hl3) hkh hkl W)
          rw [← unhide HS (si + j)] at HM
          have S0 : Hid (wr.drew.cell? ⟨w.heap.size, 0, none⟩ = some (.int .u64 (kh : Nat)) ∧ wr.drew.cell? ⟨w.heap.size, 1, none⟩ = some (.int .u64 (kl : Nat))) := ⟨q0.c0, q0.c1⟩
          have KQ : Hid (∀ V, Below wr.drew.heap.size wr.drew V → V.cell? ⟨w.heap.size, 0, none⟩ = some (.int .u64 (kh : Nat)) ∧ V.cell? ⟨w.heap.size, 1, none⟩ = some (.int .u64 (kl : Nat))) := fun V hV => by
            have y := q0.drew.keep hV (by simp; omega)
            exact ⟨y.c0, y.c1⟩
          have KY : Hid (∀ V, Below wr.drew.heap.size wr.drew V → Q2 V (w.heap.size + 1 + 1) (GH (si + j)).1 (GH (si + j)).2) := fun V hV => q2.drew.keep hV (by simpa using hz)
          have KS : Hid (∀ V, Below wr.drew.heap.size wr.drew V → ((V.setCell ⟨w.heap.size + 1 + 1, 0, none⟩ (.int .u64 ((GH (si + j + 1)).1 : Nat))).setCell ⟨w.heap.size + 1 + 1, 1, none⟩ (.int .u64 ((GH (si + j + 1)).2 : Nat))).cell? ⟨w.heap.size, 0, none⟩ = some (.int .u64 (kh : Nat)) ∧ ((V.setCell ⟨w.heap.size + 1 + 1, 0, none⟩ (.int .u64 ((GH (si + j + 1)).1 : Nat))).setCell ⟨w.heap.size + 1 + 1, 1, none⟩ (.int .u64 ((GH (si + j + 1)).2 : Nat))).cell? ⟨w.heap.size, 1, none⟩ = some (.int .u64 (kl : Nat))) := fun V hV => by
            have y := ((q0.drew.keep hV (by simp; omega)).other (b' := w.heap.size + 1 + 1) (k := 0) (v := .int .u64 ((GH (si + j + 1)).1 : Nat)) (by omega)).other (b' := w.heap.size + 1 + 1) (k := 1) (v := .int .u64 ((GH (si + j + 1)).2 : Nat)) (by omega)
            exact ⟨y.c0, y.c1⟩
          have k0 := q2.drew.c0
          have k1 := q2.drew.c1
          have R0 := hide q0.drew
          have R1 := hide q1.drew
          have R2 := hide q2.drew
          have RB := hide hB.drew
          have hzd : w.heap.size + 1 + 1 < wr.drew.heap.size := by simpa using hz
          have HAJ := hide ha
          have hGS : Hid (si + (j + 1) = si + j + 1) := rfl
          clear ha q0 q1 q2 hB hAW hAD hl1 hl2 hl3
          generalize hG1 : GH (si + j + 1) = G1 at *
          have HG1 := hide hG1
          clear hG1
          generalize (GH (si + j)).1 = Y1 at *
          generalize (GH (si + j)).2 = Y2 at *
          generalize BH (si + j) = X1 at *
          generalize BL (si + j) = X2 at *
          have v1 : (0 : Int) ≤ (a : Int) ∧ (a : Int) ≤ (ll : Int) := by omega
          go_wp2_with fail
          refine wp_region_held_drew (S := fun V => V.cell? ⟨w.heap.size, 0, none⟩ = some (.int .u64 (kh : Nat)) ∧ V.cell? ⟨w.heap.size, 1, none⟩ = some (.int .u64 (kl : Nat))) (by kernel_rfl) (unhide S0) (fun hHeld => ?_)
          refine wpAnyH_take (i := 1) (v := ?_) rfl (by kernel_rfl) (by kernel_rfl) (by kernel_rfl) (fun _ _ _ h => h) (Or.inl ⟨by rfl, ?_⟩) hHeld ?_
          rotate_left
          · intro V hSw; go_simp; rfl
          simp only [Act.put, List.getElem_toArray, List.getElem_cons_succ, List.getElem_cons_zero, List.setIfInBounds_toArray, List.set_cons_zero, List.set_cons_succ]
          refine wpAnyH_take (i := 2) (v := ?_) rfl (by kernel_rfl) (by kernel_rfl) (by kernel_rfl) (fun _ _ _ h => h) (Or.inl ⟨by rfl, ?_⟩) hHeld ?_
          rotate_left
          · intro V hSw; go_simp; rfl
          simp only [Act.put, List.getElem_toArray, List.getElem_cons_succ, List.getElem_cons_zero, List.setIfInBounds_toArray, List.set_cons_zero, List.set_cons_succ]
          refine wpAnyH_take (i := 3) (v := ?_) rfl (by kernel_rfl) (by kernel_rfl) (by kernel_rfl) (fun _ _ _ h => h) (Or.inl ⟨by rfl, ?_⟩) hHeld ?_
          rotate_left
          · intro V hSw; go_simp; rfl
          simp only [Act.put, List.getElem_toArray, List.getElem_cons_succ, List.getElem_cons_zero, List.setIfInBounds_toArray, List.set_cons_zero, List.set_cons_succ]
          refine wpAnyH_take (i := 6) (v := ?_) rfl (by kernel_rfl) (by kernel_rfl) (by kernel_rfl) (fun _ _ _ h => h) (Or.inl ⟨by rfl, ?_⟩) hHeld ?_
          rotate_left
          · intro V hSw; go_simp; rfl
          simp only [Act.put, List.getElem_toArray, List.getElem_cons_succ, List.getElem_cons_zero, List.setIfInBounds_toArray, List.set_cons_zero, List.set_cons_succ]
          refine wpAnyH_ready (rs := [0, 4]) (by kernel_rfl) (by simp) ?_
          refine AllReadyH.cons rfl (fun K hK => ?_) (AllReadyH.cons rfl (fun K hK => ?_) AllReadyH.nil)
          · go_simp
            refine hK.out _ _ (hHeld) (fun hHeld => ?_)
            clear hK K
            try simp only [Act.put, List.getElem_toArray, List.getElem_cons_succ, List.getElem_cons_zero, List.setIfInBounds_toArray, List.set_cons_zero, List.set_cons_succ]
            refine wpAnyH_ready (rs := [4]) (by kernel_rfl) (by simp) ?_
            refine AllReadyH.cons rfl (fun K hK => ?_) AllReadyH.nil
            go_simp
            go_at_call 67
            with_reducible refine (unhide HE).mono ?_
            rintro e w9 ⟨rfl, b9⟩
            refine hK.out _ _ (unhide KQ _ b9) (fun hHeld => ?_)
            clear hK K
            try simp only [Act.put, List.getElem_toArray, List.getElem_cons_succ, List.getElem_cons_zero, List.setIfInBounds_toArray, List.set_cons_zero, List.set_cons_succ]
            refine wpAnyH_ready (rs := [5]) (by kernel_rfl) (by simp) ?_
            refine AllReadyH.cons rfl (fun K hK => ?_) AllReadyH.nil
            go_simp
            go_at_call 92
            with_reducible refine (unhide HX _).mono ?_
            rintro e w10 ⟨rfl, b10⟩
            refine hK.out _ _ (unhide KQ _ (b9.trans (b10.mono b9.size))) (fun hHeld => ?_)
            clear hK K
            try simp only [Act.put, List.getElem_toArray, List.getElem_cons_succ, List.getElem_cons_zero, List.setIfInBounds_toArray, List.set_cons_zero, List.set_cons_succ]
            refine wpAnyH_ready (rs := [7]) (by kernel_rfl) (by simp) ?_
            refine AllReadyH.cons rfl (fun K hK => ?_) AllReadyH.nil
            go_simp
            go_at_call 93
            with_reducible refine (unhide HM _).mono ?_
            rintro e w11 ⟨rfl, b11⟩
            have B11 := (b9.trans (b10.mono b9.size)).trans (b11.mono (b9.trans (b10.mono b9.size)).size)
            have m0 := (unhide KY _ B11).c0
            have m1 := (unhide KY _ B11).c1
            have m2 := (unhide KY _ B11).f0
            have m3 := (unhide KY _ B11).f1
            refine hK.out _ _ (unhide KQ _ B11) (fun hHeld => ?_)
            clear hK K
            try simp only [Act.put, List.getElem_toArray, List.getElem_cons_succ, List.getElem_cons_zero, List.setIfInBounds_toArray, List.set_cons_zero, List.set_cons_succ]
            refine wpAnyH_ready (rs := [8]) (by kernel_rfl) (by simp) ?_
            refine AllReadyH.cons rfl (fun K hK => ?_) AllReadyH.nil
            go_simp
            refine hK.out _ _ (unhide KS _ B11) (fun hHeld => ?_)
            clear hK K
            try simp only [Act.put, List.getElem_toArray, List.getElem_cons_succ, List.getElem_cons_zero, List.setIfInBounds_toArray, List.set_cons_zero, List.set_cons_succ]
            refine wpAnyH_done (by kernel_rfl) ?_ _
            have b2 := hide B11
            have T0 := hide ((((unhide R0).keep B11 (by omega)).other (b' := w.heap.size + 1 + 1) (k := 0) (v := .int .u64 (G1.1 : Nat)) (by omega)).other (b' := w.heap.size + 1 + 1) (k := 1) (v := .int .u64 (G1.2 : Nat)) (by omega))
            have T1 := hide ((((unhide R1).keep B11 (by omega)).other (b' := w.heap.size + 1 + 1) (k := 0) (v := .int .u64 (G1.1 : Nat)) (by omega)).other (b' := w.heap.size + 1 + 1) (k := 1) (v := .int .u64 (G1.2 : Nat)) (by omega))
            have T2 := hide ((((unhide R2).keep B11 (by omega)).put0 G1.1).put1 G1.2)
            have TB := hide ((((unhide RB).trans (B11.mono (unhide RB).size)).setCell (p := ⟨w.heap.size + 1 + 1, 0, none⟩) (show w.heap.size ≤ w.heap.size + 1 + 1 by omega) (.int .u64 (G1.1 : Nat))).setCell (p := ⟨w.heap.size + 1 + 1, 1, none⟩) (show w.heap.size ≤ w.heap.size + 1 + 1 by omega) (.int .u64 (G1.2 : Nat)))
            have hz6 : Hid (w.heap.size + 1 + 1 < ((w11.setCell ⟨w.heap.size + 1 + 1, 0, none⟩ (.int .u64 (G1.1 : Nat))).setCell ⟨w.heap.size + 1 + 1, 1, none⟩ (.int .u64 (G1.2 : Nat))).heap.size) := by
              have := B11.size
              simp only [World.setCell, Array.size_modify]
              exact Nat.lt_of_lt_of_le hzd this
            clear b9 b10 b11 B11 m0 m1 m2 m3 hHeld
            go_wp2
            exact ⟨⟨j + 1, a + 16, by have := unhide HAJ; omega, by omega, by go_num, unhide T0, unhide T1, by rw [unhide hGS, unhide HG1]; exact unhide T2, unhide hz6, unhide TB⟩, by simp [intOf]; omega⟩
          · go_simp
            go_at_call 67
            with_reducible refine (unhide HE).mono ?_
            rintro e w9 ⟨rfl, b9⟩
            have l0 := (unhide KY _ b9).c0
            have l1 := (unhide KY _ b9).c1
            refine hK.out _ _ (unhide KQ _ b9) (fun hHeld => ?_)
            clear hK K
            try simp only [Act.put, List.getElem_toArray, List.getElem_cons_succ, List.getElem_cons_zero, List.setIfInBounds_toArray, List.set_cons_zero, List.set_cons_succ]
            refine wpAnyH_ready (rs := [0]) (by kernel_rfl) (by simp) ?_
            refine AllReadyH.cons rfl (fun K hK => ?_) AllReadyH.nil
            go_simp
            refine hK.out _ _ (hHeld) (fun hHeld => ?_)
            clear hK K
            try simp only [Act.put, List.getElem_toArray, List.getElem_cons_succ, List.getElem_cons_zero, List.setIfInBounds_toArray, List.set_cons_zero, List.set_cons_succ]
            refine wpAnyH_ready (rs := [5]) (by kernel_rfl) (by simp) ?_
            refine AllReadyH.cons rfl (fun K hK => ?_) AllReadyH.nil
            go_simp
            go_at_call 92
            with_reducible refine (unhide HX _).mono ?_
            rintro e w10 ⟨rfl, b10⟩
            refine hK.out _ _ (unhide KQ _ (b9.trans (b10.mono b9.size))) (fun hHeld => ?_)
            clear hK K
            try simp only [Act.put, List.getElem_toArray, List.getElem_cons_succ, List.getElem_cons_zero, List.setIfInBounds_toArray, List.set_cons_zero, List.set_cons_succ]
            refine wpAnyH_ready (rs := [7]) (by kernel_rfl) (by simp) ?_
            refine AllReadyH.cons rfl (fun K hK => ?_) AllReadyH.nil
            go_simp
            go_at_call 93
            with_reducible refine (unhide HM _).mono ?_
            rintro e w11 ⟨rfl, b11⟩
            have B11 := (b9.trans (b10.mono b9.size)).trans (b11.mono (b9.trans (b10.mono b9.size)).size)
            have m0 := (unhide KY _ B11).c0
            have m1 := (unhide KY _ B11).c1
            have m2 := (unhide KY _ B11).f0
            have m3 := (unhide KY _ B11).f1
            refine hK.out _ _ (unhide KQ _ B11) (fun hHeld => ?_)
            clear hK K
            try simp only [Act.put, List.getElem_toArray, List.getElem_cons_succ, List.getElem_cons_zero, List.setIfInBounds_toArray, List.set_cons_zero, List.set_cons_succ]
            refine wpAnyH_ready (rs := [8]) (by kernel_rfl) (by simp) ?_
            refine AllReadyH.cons rfl (fun K hK => ?_) AllReadyH.nil
            go_simp
            refine hK.out _ _ (unhide KS _ B11) (fun hHeld => ?_)
            clear hK K
            try simp only [Act.put, List.getElem_toArray, List.getElem_cons_succ, List.getElem_cons_zero, List.setIfInBounds_toArray, List.set_cons_zero, List.set_cons_succ]
            refine wpAnyH_done (by kernel_rfl) ?_ _
            have b2 := hide B11
            have T0 := hide ((((unhide R0).keep B11 (by omega)).other (b' := w.heap.size + 1 + 1) (k := 0) (v := .int .u64 (G1.1 : Nat)) (by omega)).other (b' := w.heap.size + 1 + 1) (k := 1) (v := .int .u64 (G1.2 : Nat)) (by omega))
            have T1 := hide ((((unhide R1).keep B11 (by omega)).other (b' := w.heap.size + 1 + 1) (k := 0) (v := .int .u64 (G1.1 : Nat)) (by omega)).other (b' := w.heap.size + 1 + 1) (k := 1) (v := .int .u64 (G1.2 : Nat)) (by omega))
            have T2 := hide ((((unhide R2).keep B11 (by omega)).put0 G1.1).put1 G1.2)
            have TB := hide ((((unhide RB).trans (B11.mono (unhide RB).size)).setCell (p := ⟨w.heap.size + 1 + 1, 0, none⟩) (show w.heap.size ≤ w.heap.size + 1 + 1 by omega) (.int .u64 (G1.1 : Nat))).setCell (p := ⟨w.heap.size + 1 + 1, 1, none⟩) (show w.heap.size ≤ w.heap.size + 1 + 1 by omega) (.int .u64 (G1.2 : Nat)))
            have hz6 : Hid (w.heap.size + 1 + 1 < ((w11.setCell ⟨w.heap.size + 1 + 1, 0, none⟩ (.int .u64 (G1.1 : Nat))).setCell ⟨w.heap.size + 1 + 1, 1, none⟩ (.int .u64 (G1.2 : Nat))).heap.size) := by
              have := B11.size
              simp only [World.setCell, Array.size_modify]
              exact Nat.lt_of_lt_of_le hzd this
            clear b9 b10 b11 B11 m0 m1 m2 m3 hHeld
            go_wp2
            exact ⟨⟨j + 1, a + 16, by have := unhide HAJ; omega, by omega, by go_num, unhide T0, unhide T1, by rw [unhide hGS, unhide HG1]; exact unhide T2, unhide hz6, unhide TB⟩, by simp [intOf]; omega⟩
        · have hae : a = ll := by omega
          have hL := unhide HLN
          have hsj : si + j = sj := by omega
          rw [hsj] at q2
          have R0 := hide q0
          have R1 := hide q1
          have R2 := hide q2
          have RB := hide hB
          have hna : ¬ (a : Int) < (ll : Int) := by omega
          clear q0 q1 q2 hB hae hL hsj ha
          go_wp2
          exact ⟨⟨i + 1, by omega, by go_num, unhide R0, unhide R1, by rw [unhide HSJ]; exact unhide R2, hz, unhide RB⟩, by simp [intOf]; omega⟩
    · obtain rfl : i = m := by omega
      have c0 := q2.c0
      have c1 := q2.c1
      have g0 := q1.f0
      have g1 := q1.f1
      have k0 := q1.c0
      have k1 := q1.c1
      have R := hide ((q1.put0 (GH (st i)).1).put1 (GH (st i)).2)
      have B := hide ((hB.setCell (p := ⟨w.heap.size + 1, 0, none⟩) (show w.heap.size ≤ w.heap.size + 1 by omega) (.int .u64 ((GH (st i)).1 : Nat))).setCell (p := ⟨w.heap.size + 1, 1, none⟩) (show w.heap.size ≤ w.heap.size + 1 by omega) (.int .u64 ((GH (st i)).2 : Nat)))
      clear q0 q1 q2 hB
      go_wp2
      refine ret_two 4 (w.heap.size + 1) (GH (st i)).1 (GH (st i)).2 82 _ ?r1 ?r2 ?r3 (unhide R) Try.underlying82 rfl info_el ?_
      case r1 => rfl
      case r2 => rfl
      case r3 => rfl
      exact ⟨rfl, unhide B⟩
end Go.Proofs.Ytkpodgeinanceaa
namespace Go.Proofs.Ytkpodgeinanceaa
open Go.ChangeShapes Go.WideShapes Go.ChangeAt Go.RowKit
set_option linter.unusedVariables false

/-- how long a text is when it is filled up -/
def flN (n : Nat) : Nat := (n + 15) / 16 * 16
/-- a text with noughts behind it -/
def flF (n : Nat) (f : Nat → Nat) (i : Nat) : Nat := if i < n then f i else 0
theorem flN_le (n : Nat) : n ≤ flN n ∧ flN n ≤ n + 15 ∧ flN n % 16 = 0 := by unfold flN; omega
theorem flF_lt (n : Nat) (f : Nat → Nat) (hf : ∀ i, f i < 256) (i : Nat) : flF n f i < 256 := by
  unfold flF
  split
  · exact hf i
  · omega
/-- one byte put behind a slice with no room -/
theorem Sg.grows {w : World} {g o n cap : Nat} {f : Nat → Nat} (h : Sg w g o n cap f) (hr : ¬ n + 1 ≤ cap) (ad : Addr) (c : Nat) (x : Value) (hx : w.cell? ad = some x) (hfx : x = .int .u8 (f n : Nat)) (had : ad.add 0 = ad) (hn : n ≤ 1048576) (ty : TypeId) :
    ∃ g' cap' w', (Builtin.append_ #[32, 32] ty #[.slice (some ⟨g, o, none⟩) n cap, .slice (some ad) 1 c]).run Try.prog w = .ok (.slice (some ⟨g', 0, none⟩) (n + 1) cap') w' ∧ w.heap.size ≤ g' ∧ Sg w' g' 0 (n + 1) cap' f ∧ Below w.heap.size w w' := by
  obtain ⟨i0, hi, hz0, hz1, hz2⟩ := info_parts info_u8
  subst hfx
  have hnews : ∀ j u, ([.int .u8 ((f n : Nat) : Int)] : List Value)[j]? = some u → w.cell? (ad.add j) = some u := by
    intro j u hu
    match j, hu with
    | 0, hu => simp at hu; subst hu; rw [had]; exact hx
  obtain ⟨v', w', hrun, hown, hgrow⟩ := run_append_arg_grows (P := Try.prog) w 32 ty 5 i0 (.int .u8 0) 1 1 Try.underlying32 hi hz0 hz1 hz2 rfl (by decide) ⟨g, o, none⟩ n cap (us n f) (by rw [us_length, Nat.mul_one])
    (fun j u hu => by rw [Addr.add_mid]; exact h.ar.range j u hu) ad 1 c [.int .u8 ((f n : Nat) : Int)] (by simp) hnews (by omega) (by unfold maxLen; omega) (by omega)
  rw [← us_succ] at hown
  have hown0 := hown
  rcases hown.2 with ⟨_, h0⟩ | ⟨g', cap', cur, rfl, hg', hgg, hnc, hcm, hcs, htk⟩
  · omega
  · refine ⟨g', cap', w', hrun, hg', ⟨⟨fun i hi => ?_, fun i hi => ?_, ?_⟩, hnc, fun j h1 h2 => ?_⟩, ⟨hgrow.os, hgrow.tape, hgrow.output, hgrow.size, fun k hk => hgrow.block k (by omega) (by simp)⟩⟩
    · rw [Nat.zero_add, hown0.cellAt i (by omega)]
      simp [us_def, hi]
    · rw [Nat.zero_add]; exact hown0.frozenAt i
    · exact (Array.getElem?_eq_some_iff.1 hgg).1
    · rw [Nat.zero_add]
      exact ⟨isSome_of_row hgg j (by omega), hown0.frozenAt j⟩
/-- append at the list of a plain region's operations, by its run -/
theorem wpList_append_run {P : Program} {ops : Array Oper} {rest : List Oper} {o : Oper} {a : Act} {w : World} {Q : Exit → Act → World → Prop} (hg : o.guard = none) (d x : Operand) (t : TypeId)
    (hop : o.op = Op.call { callee := Callee.builtin Builtin.append, args := #[d, x], argTypes := #[t, t] }) (v1 v2 v' : Value) (w' : World) (hd : a.eval d = v1) (hx : a.eval x = v2)
    (hrun : (Builtin.append_ #[t, t] o.type #[v1, v2]).run P w = .ok v' w') (h : wpList P ops Q rest (a.put o.dst v') w') : wpList P ops Q (o :: rest) a w :=
  wpList_plain hg fun K hK => by
    unfold Oper.wp
    simp [execOp, hop, resolve, invoke, builtin, hd, hx, hrun, Result.andThen]
    exact hK _ _ h
theorem ot_below {g : Nat} {w w' : World} (h : Below w.heap.size w w') : Ot g w w' := ⟨h.size, fun b hb _ => h.block b hb⟩
theorem Ot.trans {g g' : Nat} {w w1 w2 : World} (h1 : Ot g w w1) (h2 : Ot g' w1 w2) (hg : g' = g ∨ w.heap.size ≤ g') : Ot g w w2 :=
  ⟨Nat.le_trans h1.1 h2.1, fun b hb hne => by rw [h2.2 b (Nat.lt_of_lt_of_le hb h1.1) (by omega), h1.2 b hb hne]⟩
/-- a text of which k bytes are there, filled up -/
def FI (w wr : World) (g o n cap : Nat) (f : Nat → Nat) (v : Value) (k : Nat) : Prop :=
  ∃ g' o' cap', v = .slice (some ⟨g', o', none⟩) k cap' ∧ Sg wr g' o' k cap' (flF n f) ∧ (g' = g ∨ w.heap.size ≤ g') ∧ Ot g w wr ∧ (∀ B, B ≤ g → B ≤ w.heap.size → Below B w wr) ∧ (cap = n → Below w.heap.size w wr ∧ (w.heap.size ≤ g' ∨ (k = n ∧ cap' = n)))
theorem FI.start {w : World} {g o n cap : Nat} {f : Nat → Nat} (h : Sg w g o n cap f) : FI w w g o n cap f (.slice (some ⟨g, o, none⟩) n cap) n :=
  ⟨g, o, cap, rfl, ⟨h.ar.congr (fun i hi => by unfold flF; rw [if_pos hi]), h.le, h.sp⟩, Or.inl rfl, ⟨Nat.le_refl _, fun _ _ _ => rfl⟩, fun B _ _ => Below.refl _ _, fun e => ⟨Below.refl _ _, Or.inr ⟨rfl, e⟩⟩⟩
theorem FI.step {w wr : World} {g o n cap k : Nat} {f : Nat → Nat} {v : Value} (h : FI w wr g o n cap f v k) (hk : n ≤ k) (hm : k ≤ 10000) :
    ∃ v' w', (Builtin.append_ #[32, 32] 32 #[v, .slice (some ⟨wr.heap.size, 0, none⟩) 1 1]).run Try.prog (wr.alloc (.cells #[.int .u8 0] 5)) = .ok v' w' ∧ FI w w' g o n cap f v' (k + 1) := by
  obtain ⟨g', o', cap', rfl, hs, hg, ho, hb, hc⟩ := h
  have hx : (wr.alloc (.cells #[.int .u8 0] 5)).cell? ⟨wr.heap.size, 0, none⟩ = some (.int .u8 0) := new_cell _ _ _
  have hf : (Value.int .u8 0) = .int .u8 ((flF n f k : Nat) : Int) := by unfold flF; rw [if_neg (by omega)]; rfl
  have al := (Below.refl wr.heap.size wr).alloc (Nat.le_refl _) (.cells #[.int .u8 0] 5)
  have hs1 := hs.alloc (.cells #[.int .u8 0] 5)
  have hsz : (wr.alloc (.cells #[.int .u8 0] 5)).heap.size = wr.heap.size + 1 := by simp
  generalize wr.alloc (.cells #[.int .u8 0] 5) = W1 at *
  have hws : w.heap.size ≤ wr.heap.size := ho.1
  by_cases hcase : cap = n ∧ k = n ∧ cap' = n
  · obtain ⟨c1, c2, c3⟩ := hcase
    obtain ⟨g2, cap2, w2, hrun, hg2, hs2, hb2⟩ := hs1.grows (by omega) ⟨wr.heap.size, 0, none⟩ 1 _ hx hf rfl (by omega) 32
    have hb3 : Below wr.heap.size wr w2 := al.trans (hb2.mono (by omega))
    exact ⟨_, w2, hrun, g2, 0, cap2, rfl, hs2, Or.inr (by omega), ho.trans (ot_below (g := g) hb3) (Or.inl rfl), fun B h1 h2 => (hb B h1 h2).trans (hb3.mono (by omega)), fun e => ⟨(hc e).1.trans (hb3.mono hws), Or.inl (by omega)⟩⟩
  · obtain ⟨g2, o2, cap2, w2, hrun, hg2, hs2, hb2, _, ho2⟩ := hs1.push (base := 0) (Nat.zero_le _) (Nat.zero_le _) ⟨wr.heap.size, 0, none⟩ 1 _ hx hf rfl (by omega) 32
    have hB : ∀ B, B ≤ g' → B ≤ wr.heap.size → Below B wr w2 := fun B h1 h2 => by
      obtain ⟨g3, o3, cap3, w3, hrun3, _, _, hb3, _, _⟩ := hs1.push (base := B) h1 (by omega) ⟨wr.heap.size, 0, none⟩ 1 _ hx hf rfl (by omega) 32
      rw [hrun] at hrun3
      injection hrun3 with _ e
      subst e
      exact (al.mono h2).trans hb3
    have hg3 : g2 = g ∨ w.heap.size ≤ g2 := by omega
    have ho3 : Ot g' wr w2 := ⟨Nat.le_trans al.size ho2.1, fun b hb9 hne => by rw [ho2.2 b (by omega) hne, al.block b hb9]⟩
    refine ⟨_, w2, hrun, g2, o2, cap2, rfl, hs2, hg3, ho.trans ho3 hg, fun B h1 h2 => (hb B h1 h2).trans (hB B (by omega) (by omega)), fun e => ?_⟩
    obtain ⟨e1, e2⟩ := hc e
    have e3 : w.heap.size ≤ g' := by
      rcases e2 with e2 | ⟨e2, e4⟩
      · exact e2
      · exact absurd ⟨e, e2, e4⟩ hcase
    exact ⟨e1.trans (hB _ e3 hws), Or.inl (by omega)⟩
set_option maxRecDepth 100000 in
set_option maxHeartbeats 1000000 in
theorem implFilled (g o n cap : Nat) (f : Nat → Nat) (hn : n ≤ 4000) (w : World) (hS : Sg w g o n cap f) :
    Calls Try.prog 70 #[.slice (some ⟨g, o, none⟩) n cap] w fun e w' => ∃ v, e = .returned v ∧ FI w w' g o n cap f v (flN n) := by
  have HS := hide (FI.start hS)
  clear hS
  obtain ⟨hf1, hf2, hf3⟩ := flN_le n
  generalize flN n = N at *
  have HFN : Hid (∀ k, n ≤ k → k % 16 = 0 → k ≤ N → k = N) := fun k h1 h2 h3 => by omega
  go_enter Try.func70, Try.ntmps70
  go_wp2_with fail
  go_loopw [0] (fun v wr => ∃ k : Nat, n ≤ k ∧ k ≤ N ∧ FI w wr g o n cap f v k) (fun v _ => 5000 - (match v with | .slice _ k _ => k | _ => 0))
  case atStart => exact ⟨n, Nat.le_refl _, hf1, unhide HS⟩
  case round =>
    obtain ⟨k, hk1, hk2, hFI⟩ := hrel
    clear HS
    by_cases hm : k % 16 = 0
    · have hkN := unhide HFN k hk1 hm hk2
      have h1 : ((k : Int) % 16 != 0) = false := by simp; omega
      have HF := hide hFI
      obtain ⟨g1, o1, cap1, rfl, hs1, _⟩ := hFI
      clear hs1 hm
      go_wp2
      go_ret
      exact ⟨_, rfl, by rw [← hkN]; exact unhide HF⟩
    · obtain ⟨v', w', hrun, hF2⟩ := hFI.step hk1 (by omega)
      obtain ⟨g1, o1, cap1, rfl, hs1, _⟩ := hFI
      have h1 : ((k : Int) % 16 != 0) = true := by simp; omega
      have hkk : k + 1 ≤ N := by omega
      have HF2 := hide hF2
      clear hs1 hm hF2
      have RUN := hide hrun
      clear hrun
      obtain ⟨g2, o2, cap2, rfl⟩ : ∃ g2 o2 cap2, v' = .slice (some ⟨g2, o2, none⟩) (k + 1) cap2 := by
        obtain ⟨g2, o2, cap2, e, _⟩ := unhide HF2
        exact ⟨g2, o2, cap2, e⟩
      go_wp2_with (at_builtin; refine wpList_append_run rfl _ _ 32 rfl _ _ _ _ rfl rfl (unhide RUN) ?_)
      exact ⟨⟨k + 1, by omega, hkk, unhide HF2⟩, by simp; omega⟩
end Go.Proofs.Ytkpodgeinanceaa
namespace Go.Proofs.Ytkpodgeinanceaa
open Go.ChangeShapes Go.WideShapes Go.ChangeAt Go.RowKit
set_option linter.unusedVariables false

/-- the bytes of the block of noughts by a key -/
def hkF (key : ByteArray) : Nat → Nat := fw (rk (at8 key)) (fun _ => 0) 10
theorem hkF_lt (key : ByteArray) (i : Nat) : hkF key i < 256 := fw_lt (rk (at8 key)) _ (fun n i => rk_lt (at8 key) (at8_lt key) n i) (fun _ => by omega) 10 i
/-- what its hashes are multiplied by -/
def hkH (key : ByteArray) : Nat := nbF (hkF key) 8
def hkL (key : ByteArray) : Nat := nbF (fun i => hkF key (8 + i)) 8
theorem hkH_lt (key : ByteArray) : hkH key < 18446744073709551616 := nbF_lt _ (hkF_lt key) 8
theorem hkL_lt (key : ByteArray) : hkL key < 18446744073709551616 := nbF_lt _ (fun i => hkF_lt key _) 8
/-- a key that seals lies in a block -/
structure SK (w : World) (kb cb : Nat) (key nonce : ByteArray) : Prop where
  c0 : w.cell? ⟨kb, 0, none⟩ = some (.pointer (some ⟨cb, 0, none⟩))
  c1 : w.cell? ⟨kb, 1, none⟩ = some (.int .u64 (hkH key : Nat))
  c2 : w.cell? ⟨kb, 2, none⟩ = some (.int .u64 (hkL key : Nat))
  st : Ar w kb 3 16 (at8 nonce)
  ci : Ar w cb 0 432 (ck (at8 key) 10)
theorem SK.below {w w' : World} {B kb cb : Nat} {key nonce : ByteArray} (h : SK w kb cb key nonce) (hb : Below B w w') (h1 : kb < B) (h2 : cb < B) : SK w' kb cb key nonce :=
  ⟨by rw [hb.cell (p := ⟨kb, 0, none⟩) h1]; exact h.c0, by rw [hb.cell (p := ⟨kb, 1, none⟩) h1]; exact h.c1, by rw [hb.cell (p := ⟨kb, 2, none⟩) h1]; exact h.c2, h.st.below hb h1, h.ci.below hb h2⟩
theorem SK.keep {w w' : World} {kb cb : Nat} {key nonce : ByteArray} (h : SK w kb cb key nonce) (hb : Below w.heap.size w w') : SK w' kb cb key nonce := h.below hb h.st.lt h.ci.lt
theorem sk_new (w : World) (cb x y : Nat) (t : TypeId) : (w.alloc (.cells #[.pointer (some ⟨cb, 0, none⟩), .int .u64 (x : Nat), .int .u64 (y : Nat), .int .u8 0, .int .u8 0, .int .u8 0, .int .u8 0, .int .u8 0, .int .u8 0, .int .u8 0, .int .u8 0, .int .u8 0, .int .u8 0, .int .u8 0, .int .u8 0, .int .u8 0, .int .u8 0, .int .u8 0, .int .u8 0] t)).cell? ⟨w.heap.size, 0, none⟩ = some (.pointer (some ⟨cb, 0, none⟩)) ∧ (w.alloc (.cells #[.pointer (some ⟨cb, 0, none⟩), .int .u64 (x : Nat), .int .u64 (y : Nat), .int .u8 0, .int .u8 0, .int .u8 0, .int .u8 0, .int .u8 0, .int .u8 0, .int .u8 0, .int .u8 0, .int .u8 0, .int .u8 0, .int .u8 0, .int .u8 0, .int .u8 0, .int .u8 0, .int .u8 0, .int .u8 0] t)).cell? ⟨w.heap.size, 1, none⟩ = some (.int .u64 (x : Nat)) ∧ (w.alloc (.cells #[.pointer (some ⟨cb, 0, none⟩), .int .u64 (x : Nat), .int .u64 (y : Nat), .int .u8 0, .int .u8 0, .int .u8 0, .int .u8 0, .int .u8 0, .int .u8 0, .int .u8 0, .int .u8 0, .int .u8 0, .int .u8 0, .int .u8 0, .int .u8 0, .int .u8 0, .int .u8 0, .int .u8 0, .int .u8 0] t)).cell? ⟨w.heap.size, 2, none⟩ = some (.int .u64 (y : Nat)) ∧ Ar (w.alloc (.cells #[.pointer (some ⟨cb, 0, none⟩), .int .u64 (x : Nat), .int .u64 (y : Nat), .int .u8 0, .int .u8 0, .int .u8 0, .int .u8 0, .int .u8 0, .int .u8 0, .int .u8 0, .int .u8 0, .int .u8 0, .int .u8 0, .int .u8 0, .int .u8 0, .int .u8 0, .int .u8 0, .int .u8 0, .int .u8 0] t)) w.heap.size 3 16 (fun _ => 0) := by
  refine ⟨by simp, by simp, by simp, fun i hi => ?_, fun i hi => by simp, by simp⟩
  have e : i = 0 ∨ i = 1 ∨ i = 2 ∨ i = 3 ∨ i = 4 ∨ i = 5 ∨ i = 6 ∨ i = 7 ∨ i = 8 ∨ i = 9 ∨ i = 10 ∨ i = 11 ∨ i = 12 ∨ i = 13 ∨ i = 14 ∨ i = 15 := by omega
  rcases e with rfl | rfl | rfl | rfl | rfl | rfl | rfl | rfl | rfl | rfl | rfl | rfl | rfl | rfl | rfl | rfl <;> simp
set_option maxRecDepth 100000 in
set_option maxHeartbeats 1000000 in
theorem newSeal_ok (key nonce : ByteArray) (hk : key.size = 16) (hn : nonce.size = 12) (w : World) :
    Calls Try.prog 50 #[.string key, .string nonce] w fun e w' => ∃ kb cb, w.heap.size ≤ kb ∧ w.heap.size ≤ cb ∧ e = .returned (.tuple #[.pointer (some ⟨kb, 0, none⟩), .bool true]) ∧ SK w' kb cb key nonce ∧ Below w.heap.size w w' := by
  have H1 := hide (fun W => newCipher_ok key hk W)
  go_enter Try.func50, Try.ntmps50
  go_wp2_with fail
  refine (unhide H1 _).mono ?_
  rintro e w1 ⟨cb, hcb, rfl, hC, b1⟩
  have C1 := hide hC
  have B1 := hide b1
  clear hC b1
  have ez : (us 16 fun _ => 0).toArray = #[.int .u8 0, .int .u8 0, .int .u8 0, .int .u8 0, .int .u8 0, .int .u8 0, .int .u8 0, .int .u8 0, .int .u8 0, .int .u8 0, .int .u8 0, .int .u8 0, .int .u8 0, .int .u8 0, .int .u8 0, .int .u8 0] := by rw [us_def]; rfl
  have hF := implForward cb (at8 key) (fun _ => 0) (at8_lt key) (fun _ => by omega) w1 (unhide C1)
  rw [ez] at hF
  have HF := hide hF
  clear hF ez
  have HL := hide (hkF_lt key)
  have HW : Hid (∀ cap b W, Ar W b 0 16 (fw (rk (at8 key)) (fun _ => 0) 10) → Calls Try.prog 67 #[.slice (some ⟨b, 0, none⟩) 16 cap] W fun e w' => e = .returned (.agg #[.int .u64 (hkH key : Nat), .int .u64 (hkL key : Nat)]) ∧ Below W.heap.size W w') := fun cap b W hA => implElementOf b 0 16 cap (hkF key) (hkF_lt key) (by omega) (by omega) W hA
  generalize fw (rk (at8 key)) (fun _ => 0) 10 = r at *
  go_wp2_with fail
  refine (unhide HF).mono ?_
  rintro e w2 ⟨rfl, b2⟩
  have C2 := hide ((unhide C1).below b2 (unhide C1).lt)
  have B2 := hide ((unhide B1).trans (b2.mono (unhide B1).size))
  have hlr : (us 16 r).length = 16 := us_length _ _
  clear b2 C1 B1
  go_wp2_with fail
  rw [(z16_new w2 84).cellsPut]
  obtain ⟨n1, n2, n3⟩ := fr16 w2 r
  generalize (w2.alloc (.cells #[.int .u8 0, .int .u8 0, .int .u8 0, .int .u8 0, .int .u8 0, .int .u8 0, .int .u8 0, .int .u8 0, .int .u8 0, .int .u8 0, .int .u8 0, .int .u8 0, .int .u8 0, .int .u8 0, .int .u8 0, .int .u8 0] 84)).setCells w2.heap.size 0 (us 16 r) = W3 at n1 n2 n3 ⊢
  have C3 := hide ((unhide C2).below n2 (unhide C2).lt)
  have B3 := hide ((unhide B2).trans (n2.mono (unhide B2).size))
  have A3 := hide n1
  clear n1 n2 n3 hlr C2 B2
  go_wp2_with fail
  refine (unhide HW _ _ _ (unhide A3)).mono ?_
  rintro e w4 ⟨rfl, b4⟩
  have C4 := hide ((unhide C3).below b4 (unhide C3).lt)
  have B4 := hide ((unhide B3).trans (b4.mono (unhide B3).size))
  clear b4 C3 B3 A3
  go_wp2_with fail
  obtain ⟨d0, d1, d2, d3⟩ := sk_new w4 cb (hkH key) (hkL key) 86
  have C5 := hide ((unhide C4).alloc (.cells #[.pointer (some ⟨cb, 0, none⟩), .int .u64 (hkH key : Nat), .int .u64 (hkL key : Nat), .int .u8 0, .int .u8 0, .int .u8 0, .int .u8 0, .int .u8 0, .int .u8 0, .int .u8 0, .int .u8 0, .int .u8 0, .int .u8 0, .int .u8 0, .int .u8 0, .int .u8 0, .int .u8 0, .int .u8 0, .int .u8 0] 86))
  have B5 := hide ((unhide B4).alloc (unhide B4).size (.cells #[.pointer (some ⟨cb, 0, none⟩), .int .u64 (hkH key : Nat), .int .u64 (hkL key : Nat), .int .u8 0, .int .u8 0, .int .u8 0, .int .u8 0, .int .u8 0, .int .u8 0, .int .u8 0, .int .u8 0, .int .u8 0, .int .u8 0, .int .u8 0, .int .u8 0, .int .u8 0, .int .u8 0, .int .u8 0, .int .u8 0] 86))
  generalize w4.alloc (.cells #[.pointer (some ⟨cb, 0, none⟩), .int .u64 (hkH key : Nat), .int .u64 (hkL key : Nat), .int .u8 0, .int .u8 0, .int .u8 0, .int .u8 0, .int .u8 0, .int .u8 0, .int .u8 0, .int .u8 0, .int .u8 0, .int .u8 0, .int .u8 0, .int .u8 0, .int .u8 0, .int .u8 0, .int .u8 0, .int .u8 0] 86) = W5 at d0 d1 d2 d3 C5 B5 ⊢
  rw [Go.run_copy_string W5 32 9 3 5 w4.heap.size 3 16 16 nonce Try.underlying32 size_u8 (by omega) (fun j hj => by rw [d3.c j (by omega)]; rfl) (fun j hj => d3.fz j (by omega)), us_at8, hn]
  have hkc : w.heap.size ≤ w4.heap.size := (unhide B4).size
  have hcl : cb < w4.heap.size := (unhide C4).lt
  have S6 : SK (W5.setCells w4.heap.size 3 (us 12 (at8 nonce))) w4.heap.size cb key nonce := by
    refine ⟨?_, ?_, ?_, ?_, ?_⟩
    · rw [World.cell?_setCells_out w4.heap.size _ 3 W5 _ (fun _ h => by simp at h ⊢)]; exact d0
    · rw [World.cell?_setCells_out w4.heap.size _ 3 W5 _ (fun _ h => by simp at h ⊢)]; exact d1
    · rw [World.cell?_setCells_out w4.heap.size _ 3 W5 _ (fun _ h => by simp at h ⊢)]; exact d2
    · exact d3.putPart (p := 0) (m := 12) (g := at8 nonce) (by omega) (fun i hi => by rw [Nat.zero_add]) (fun i hi hne => by unfold at8; rw [dif_neg (by omega)])
    · exact (unhide C5).others (Or.inl (by omega))
  have B6 := Go.Proofs.Ytkpodgeinanceaa.below_setCells (b := w4.heap.size) hkc (us 12 (at8 nonce)) 3 _ (unhide B5)
  generalize W5.setCells w4.heap.size 3 (us 12 (at8 nonce)) = W6 at S6 B6 ⊢
  have HS := hide S6
  have HB := hide B6
  clear S6 B6 d0 d1 d2 d3 B4 B5 C4 C5
  generalize w4.heap.size = kb at *
  go_wp2
  go_ret2
  exact ⟨kb, cb, hkc, hcb, rfl, unhide HS, unhide HB⟩
set_option maxRecDepth 100000 in
set_option maxHeartbeats 1000000 in
theorem newSeal_no (key nonce : ByteArray) (h : ¬ (key.size = 16 ∧ nonce.size = 12)) (hl : key.size ≤ 1048576) (hl2 : nonce.size ≤ 1048576) (w : World) :
    Calls Try.prog 50 #[.string key, .string nonce] w fun e w' => e = .returned (.tuple #[.pointer none, .bool false]) ∧ Below w.heap.size w w' := by
  by_cases hk : key.size = 16
  · have H1 := hide (fun W => newCipher_ok key hk W)
    have h1 : ((nonce.size : Int) != 12) = true := by simp; omega
    go_enter Try.func50, Try.ntmps50
    go_wp2_with fail
    refine (unhide H1 _).mono ?_
    rintro e w1 ⟨cb, hcb, rfl, hC, b1⟩
    have B1 := hide b1
    clear hC b1
    go_wp2
    go_ret2
    exact ⟨rfl, unhide B1⟩
  · have H1 := hide (fun W => newCipher_no key hk hl W)
    go_enter Try.func50, Try.ntmps50
    go_wp2_with fail
    refine (unhide H1 _).mono ?_
    rintro e w1 ⟨rfl, b1⟩
    have B1 := hide b1
    clear b1
    go_wp2
    go_ret2
    exact ⟨rfl, unhide B1⟩
end Go.Proofs.Ytkpodgeinanceaa
namespace Go.Proofs.Ytkpodgeinanceaa
open Go.ChangeShapes Go.WideShapes Go.ChangeAt Go.RowKit
set_option linter.unusedVariables false

/-- what is hashed for a tag: both texts filled up, and how many bits they have -/
def tgF (nb nc : Nat) (fb fc : Nat → Nat) (i : Nat) : Nat := if i < flN nb then flF nb fb i else if i < flN nb + flN nc then flF nc fc (i - flN nb) else blF (8 * nb) (8 * nc) (i - (flN nb + flN nc))
theorem tgF_lt (nb nc : Nat) (fb fc : Nat → Nat) (h1 : ∀ i, fb i < 256) (h2 : ∀ i, fc i < 256) (i : Nat) : tgF nb nc fb fc i < 256 := by
  unfold tgF
  split
  · exact flF_lt _ _ h1 _
  · split
    · exact flF_lt _ _ h2 _
    · exact blF_lt _ _ _
/-- its hash -/
def tgP (key : ByteArray) (nb nc : Nat) (fb fc : Nat → Nat) : Nat × Nat := ghF (hkH key) (hkL key) (tgF nb nc fb fc) (flN nb / 16 + flN nc / 16 + 1)
/-- the tag's bytes -/
def tgB (key nonce : ByteArray) (nb nc : Nat) (fb fc : Nat → Nat) (i : Nat) : Nat := blF (tgP key nb nc fb fc).1 (tgP key nb nc fb fc).2 i ^^^ fw (rk (at8 key)) (plB (at8 nonce) 1) 10 i
theorem tgP_lt (key : ByteArray) (nb nc : Nat) (fb fc : Nat → Nat) : (tgP key nb nc fb fc).1 < 18446744073709551616 ∧ (tgP key nb nc fb fc).2 < 18446744073709551616 := ghF_lt _ _ _ (hkH_lt key) (hkL_lt key) _
theorem tgB_lt (key nonce : ByteArray) (nb nc : Nat) (fb fc : Nat → Nat) (i : Nat) : tgB key nonce nb nc fb fc i < 256 := xor_lt _ _ (blF_lt _ _ _) (fw_lt (rk (at8 key)) _ (fun n i => rk_lt (at8 key) (at8_lt key) n i) (plB_lt _ (at8_lt nonce) _) 10 _)
theorem sg_ot {g b o n cap : Nat} {f : Nat → Nat} {w w' : World} (h : Ot g w w') (hs : Sg w b o n cap f) (hne : b ≠ g) : Sg w' b o n cap f := by
  have e := h.2 b hs.ar.lt hne
  exact ⟨h.ar hs.ar hne, hs.le, fun j h1 h2 => by rw [World.cell?_of_block (a := ⟨b, o + j, none⟩) e, World.frozen?_of_block (a := ⟨b, o + j, none⟩) e]; exact hs.sp j h1 h2⟩
theorem q2_ot {g b x y : Nat} {w w' : World} (h : Ot g w w') (hs : Q2 w b x y) (hne : b ≠ g) (hl : b < w.heap.size) : Q2 w' b x y := by
  have e := h.2 b hl hne
  exact ⟨(World.cell?_of_block (a := ⟨b, 0, none⟩) e).trans hs.c0, (World.cell?_of_block (a := ⟨b, 1, none⟩) e).trans hs.c1, (World.frozen?_of_block (a := ⟨b, 0, none⟩) e).trans hs.f0, (World.frozen?_of_block (a := ⟨b, 1, none⟩) e).trans hs.f1⟩
theorem Tx.alloc {w : World} {m tb : Nat} {b o len cp st f : Nat → Nat} (h : Tx w m tb b o len cp st f) (x : Obj) : Tx (w.alloc x) m tb b o len cp st f := h.below ((Below.refl _ _).alloc (Nat.le_refl _) x)
/-- what stands while the tag is made -/
structure Fr (W V : World) (B gb r gl : Nat) (lf : Nat → Nat) (c : Prop) : Prop where
  bel : Below B W V
  beg : c → Below gb W V
  res : Ar V r 0 16 (fun _ => 0)
  len : Ar V gl 0 16 lf
  sz : W.heap.size ≤ V.heap.size
  hB : B ≤ W.heap.size
  hg : gb ≤ W.heap.size
theorem Fr.below {W V V' : World} {B gb r gl : Nat} {lf : Nat → Nat} {c : Prop} (h : Fr W V B gb r gl lf c) (b : Below V.heap.size V V') : Fr W V' B gb r gl lf c :=
  ⟨h.bel.trans (b.mono (Nat.le_trans h.hB h.sz)), fun x => (h.beg x).trans (b.mono (Nat.le_trans h.hg h.sz)), h.res.below b h.res.lt, h.len.below b h.len.lt, Nat.le_trans h.sz b.size, h.hB, h.hg⟩
theorem Fr.alloc {W V : World} {B gb r gl : Nat} {lf : Nat → Nat} {c : Prop} (h : Fr W V B gb r gl lf c) (o : Obj) : Fr W (V.alloc o) B gb r gl lf c := h.below ((Below.refl _ _).alloc (Nat.le_refl _) o)
theorem Fr.fill {W V V' : World} {B gb r gl g : Nat} {lf : Nat → Nat} {c : Prop} (h : Fr W V B gb r gl lf c) (ot : Ot g V V') (bl : ∀ b, b ≤ g → b ≤ V.heap.size → Below b V V') (hc : c → Below gb V V') (h1 : B ≤ g) (h2 : B ≤ W.heap.size) (hr : r ≠ g) (hl : gl ≠ g) : Fr W V' B gb r gl lf c :=
  ⟨h.bel.trans (bl B h1 (Nat.le_trans h2 h.sz)), fun x => (h.beg x).trans (hc x), ot.ar h.res hr, ot.ar h.len hl, Nat.le_trans h.sz ot.1, h.hB, h.hg⟩
theorem Fr.two {W V : World} {B gb r gl gh : Nat} {lf : Nat → Nat} {c : Prop} {x y : Value} (h : Fr W V B gb r gl lf c) (h1 : gh ≠ r) (h2 : gh ≠ gl) (h3 : B ≤ gh) (h4 : gb ≤ gh) : Fr W ((V.setCell ⟨gh, 0, none⟩ x).setCell ⟨gh, 1, none⟩ y) B gb r gl lf c :=
  ⟨(h.bel.setCell (p := ⟨gh, 0, none⟩) h3 x).setCell (p := ⟨gh, 1, none⟩) h3 y, fun z => ((h.beg z).setCell (p := ⟨gh, 0, none⟩) h4 x).setCell (p := ⟨gh, 1, none⟩) h4 y, (h.res.other (a := ⟨gh, 0, none⟩) h1).other (a := ⟨gh, 1, none⟩) h1, (h.len.other (a := ⟨gh, 0, none⟩) h2).other (a := ⟨gh, 1, none⟩) h2, by simp only [World.setCell, Array.size_modify]; exact h.sz, h.hB, h.hg⟩
/-- one of three -/
def t3 (a b c i : Nat) : Nat := if i = 0 then a else if i = 1 then b else c
/-- where the texts of a tag begin, in blocks -/
def stT (nb nc i : Nat) : Nat := if i = 0 then 0 else if i = 1 then flN nb / 16 else if i = 2 then flN nb / 16 + flN nc / 16 else flN nb / 16 + flN nc / 16 + 1
theorem tx_three (V : World) (gl g5 o5 c5 g7 o7 c7 nb nc : Nat) (fb fc lf : Nat → Nat) (hlf : Hid (blF (8 * nb) (8 * nc) = lf)) (hnb : nb ≤ 1500) (hnc : nc ≤ 1500) (l5 : flN nb ≤ c5) (l7 : flN nc ≤ c7) (A5 : Ar V g5 o5 (flN nb) (flF nb fb)) (A7 : Ar V g7 o7 (flN nc) (flF nc fc)) (A9 : Ar V gl 0 16 lf) (t : TypeId) :
    Tx (V.alloc (.cells #[.slice (some ⟨g5, o5, none⟩) (flN nb) c5, .slice (some ⟨g7, o7, none⟩) (flN nc) c7, .slice (some ⟨gl, 0, none⟩) 16 16] t)) 3 V.heap.size (t3 g5 g7 gl) (t3 o5 o7 0) (t3 (flN nb) (flN nc) 16) (t3 c5 c7 16) (stT nb nc) (tgF nb nc fb fc) := by
  obtain ⟨h1, h2, h3⟩ := flN_le nb
  obtain ⟨h4, h5, h6⟩ := flN_le nc
  have hs1 : stT nb nc 1 = flN nb / 16 := rfl
  have hs2 : stT nb nc 2 = flN nb / 16 + flN nc / 16 := rfl
  have hs3 : stT nb nc 3 = flN nb / 16 + flN nc / 16 + 1 := rfl
  have hs0 : stT nb nc 0 = 0 := rfl
  have e : ∀ i, i < 3 → i = 0 ∨ i = 1 ∨ i = 2 := fun i hi => by omega
  refine ⟨rfl, fun i hi => ?_, fun i hi => ?_, fun i hi => ?_, fun i hi => ?_, fun i hi => ?_, by simp⟩
  · rcases e i hi with rfl | rfl | rfl
    · show 16 * stT nb nc 1 = 16 * stT nb nc 0 + flN nb
      omega
    · show 16 * stT nb nc 2 = 16 * stT nb nc 1 + flN nc
      omega
    · show 16 * stT nb nc 3 = 16 * stT nb nc 2 + 16
      omega
  · rcases e i hi with rfl | rfl | rfl
    · show flN nb ≤ 4000
      omega
    · show flN nc ≤ 4000
      omega
    · show 16 ≤ 4000
      omega
  · rcases e i hi with rfl | rfl | rfl
    · simp [t3]
    · simp [t3]
    · simp [t3]
  · rcases e i hi with rfl | rfl | rfl
    · exact l5
    · exact l7
    · exact Nat.le_refl 16
  · rcases e i hi with rfl | rfl | rfl
    · exact (A5.alloc _).congr (fun j hj => by
        show flF nb fb j = tgF nb nc fb fc (16 * stT nb nc 0 + j)
        unfold tgF
        rw [hs0, if_pos (by omega), Nat.mul_zero, Nat.zero_add])
    · exact (A7.alloc _).congr (fun j hj => by
        show flF nc fc j = tgF nb nc fb fc (16 * stT nb nc 1 + j)
        unfold tgF
        rw [hs1, if_neg (by omega), if_pos (by omega), show 16 * (flN nb / 16) + j - flN nb = j by omega])
    · exact (A9.alloc _).congr (fun j hj => by
        show lf j = tgF nb nc fb fc (16 * stT nb nc 2 + j)
        unfold tgF
        rw [hs2, if_neg (by omega), if_neg (by omega), unhide hlf, show 16 * (flN nb / 16 + flN nc / 16) + j - (flN nb + flN nc) = j by omega])
set_option maxRecDepth 100000 in
set_option maxHeartbeats 1000000 in
theorem implTag (kb cb : Nat) (key nonce : ByteArray) (gb ob nb capb : Nat) (fb : Nat → Nat) (gc oc nc capc : Nat) (fc : Nat → Nat) (hfb : ∀ i, fb i < 256) (hfc : ∀ i, fc i < 256) (hnb : nb ≤ 1500) (hnc : nc ≤ 1500) (w : World) (hK : SK w kb cb key nonce) (hb : Sg w gb ob nb capb fb) (hc : Sg w gc oc nc capc fc) (hne : gb ≠ gc) (B : Nat) (hB1 : kb < B) (hB2 : cb < B) (hB3 : B ≤ gb) (hB4 : B ≤ gc) :
    Calls Try.prog 53 #[.pointer (some ⟨kb, 0, none⟩), .slice (some ⟨gb, ob, none⟩) nb capb, .slice (some ⟨gc, oc, none⟩) nc capc] w fun e w' => e = .returned (.agg (us 16 (tgB key nonce nb nc fb fc)).toArray) ∧ Below B w w' ∧ (capc = nc → gc < gb → Below gb w w') := by
  have HK := hide hK
  have HB := hide hb
  have HC := hide hc
  clear hK hb hc
  go_enter Try.func53, Try.ntmps53
  have HLB := hide (fun W => implBlock (8 * nb) (8 * nc) (by omega) (by omega) W)
  go_wp2_with fail
  have r0 := z16_new w 84
  have a0 := (Below.refl w.heap.size w).alloc (Nat.le_refl _) (.cells #[.int .u8 0, .int .u8 0, .int .u8 0, .int .u8 0, .int .u8 0, .int .u8 0, .int .u8 0, .int .u8 0, .int .u8 0, .int .u8 0, .int .u8 0, .int .u8 0, .int .u8 0, .int .u8 0, .int .u8 0, .int .u8 0] 84)
  generalize w.alloc (.cells #[.int .u8 0, .int .u8 0, .int .u8 0, .int .u8 0, .int .u8 0, .int .u8 0, .int .u8 0, .int .u8 0, .int .u8 0, .int .u8 0, .int .u8 0, .int .u8 0, .int .u8 0, .int .u8 0, .int .u8 0, .int .u8 0] 84) = W1 at r0 a0 ⊢
  rw [show (8 : Int) * (nb : Int) = ((8 * nb : Nat) : Int) by omega, show (8 : Int) * (nc : Int) = ((8 * nc : Nat) : Int) by omega]
  refine (unhide HLB _).mono ?_
  rintro e w2 ⟨rfl, b2⟩
  have R2 := hide (r0.below b2 r0.lt)
  have A2 := hide (a0.trans (b2.mono a0.size))
  have hz2 : w.heap.size < w2.heap.size := Nat.lt_of_lt_of_le r0.lt b2.size
  clear r0 a0 b2
  have HLL := hide (blF_lt (8 * nb) (8 * nc))
  generalize hlf : blF (8 * nb) (8 * nc) = lf at *
  have HLF := hide hlf
  clear hlf
  have hlr : (us 16 lf).length = 16 := us_length _ _
  go_wp2_with fail
  rw [(z16_new w2 84).cellsPut]
  obtain ⟨n1, n2, n3⟩ := fr16 w2 lf
  generalize (w2.alloc (.cells #[.int .u8 0, .int .u8 0, .int .u8 0, .int .u8 0, .int .u8 0, .int .u8 0, .int .u8 0, .int .u8 0, .int .u8 0, .int .u8 0, .int .u8 0, .int .u8 0, .int .u8 0, .int .u8 0, .int .u8 0, .int .u8 0] 84)).setCells w2.heap.size 0 (us 16 lf) = W3 at n1 n2 n3 ⊢
  have R3 := hide ((unhide R2).below n2 (unhide R2).lt)
  have A3 := hide ((unhide A2).trans (n2.mono (unhide A2).size))
  have L3 := hide n1
  clear n1 n2 n3 hlr R2 A2
  generalize w2.heap.size = gl at *
  have K3 := hide ((unhide HK).keep (unhide A3))
  have SB3 := hide ((unhide HB).below (unhide A3) (unhide HB).ar.lt)
  have SC3 := hide ((unhide HC).below (unhide A3) (unhide HC).ar.lt)
  have hgbw : gb < w.heap.size := (unhide HB).ar.lt
  have hgcw : gc < w.heap.size := (unhide HC).ar.lt
  have hAs := (unhide A3).size
  have hlW3 : gl < W3.heap.size := (unhide L3).lt
  have hrW3 : w.heap.size < W3.heap.size := (unhide R3).lt
  have P : Fr W3.drew W3.drew B gb w.heap.size gl lf (capc = nc ∧ gc < gb) := ⟨Below.refl _ _, fun _ => Below.refl _ _, (unhide R3).drew, (unhide L3).drew, Nat.le_refl _, by rw [World.size_drew]; omega, by rw [World.size_drew]; omega⟩
  have SB := (unhide SB3).drew
  have SC := (unhide SC3).drew
  have hBW : B ≤ W3.drew.heap.size := P.hB
  have hgbW : gb ≤ W3.drew.heap.size := P.hg
  have hgbW' : gb < W3.drew.heap.size := by rw [World.size_drew]; omega
  have hgcW : gc < W3.drew.heap.size := by rw [World.size_drew]; omega
  have hrW : w.heap.size < W3.drew.heap.size := by rw [World.size_drew]; omega
  have hlW : gl < W3.drew.heap.size := by rw [World.size_drew]; omega
  have hr1 : w.heap.size ≠ gb := by omega
  have hr2 : w.heap.size ≠ gc := by omega
  have hl1 : gl ≠ gb := by omega
  have hl2 : gl ≠ gc := by omega
  have KQ : Hid (∀ V, Below B W3.drew V → V.cell? ⟨kb, 1, none⟩ = some (.int .u64 (hkH key : Nat)) ∧ V.cell? ⟨kb, 2, none⟩ = some (.int .u64 (hkL key : Nat))) := fun V hV => ⟨(hV.cell (p := ⟨kb, 1, none⟩) hB1).trans (unhide K3).c1, (hV.cell (p := ⟨kb, 2, none⟩) hB1).trans (unhide K3).c2⟩
  have HHO : Hid (∀ gs g5 o5 c5 g7 o7 c7 (V : World), Tx V 3 gs (t3 g5 g7 gl) (t3 o5 o7 0) (t3 (flN nb) (flN nc) 16) (t3 c5 c7 16) (stT nb nc) (tgF nb nc fb fc) → Calls Try.prog 69 #[.agg #[.int .u64 (hkH key : Nat), .int .u64 (hkL key : Nat)], .slice (some ⟨gs, 0, none⟩) 3 3] V fun e w' => e = .returned (.agg #[.int .u64 ((tgP key nb nc fb fc).1 : Nat), .int .u64 ((tgP key nb nc fb fc).2 : Nat)]) ∧ Below V.heap.size V w') := fun gs g5 o5 c5 g7 o7 c7 V hT => implHashOf (hkH key) (hkL key) (hkH_lt key) (hkL_lt key) 3 gs 3 _ _ _ _ _ _ (tgF_lt nb nc fb fc hfb hfc) (by omega) V hT
  have KA : Hid (∀ V, Below B W3.drew V → SK V kb cb key nonce) := fun V hV => (⟨(unhide K3).c0, (unhide K3).c1, (unhide K3).c2, (unhide K3).st.drew, (unhide K3).ci.drew⟩ : SK W3.drew kb cb key nonce).below hV hB1 hB2
  have A3d := hide (unhide A3).drew
  clear K3 SB3 SC3 R3 L3 A3 HK HB HC hAs hlW3 hrW3 HLB
  go_wp2_with fail
  rename_i Q9 K9 hK9
  have FIN : Hid (∀ (VF : World) (gh : Nat) (u1 u2 u3 u4 u5 u7 u9 u10 u11 u12 u13 u14 u15 u16 u17 u18 u19 u20 u21 u22 u23 u24 u25 u26 u27 u28 u29 : Value), Fr W3.drew VF B gb w.heap.size gl lf (capc = nc ∧ gc < gb) → Q2 VF gh (tgP key nb nc fb fc).1 (tgP key nb nc fb fc).2 → gh < VF.heap.size → W3.drew.heap.size ≤ gh → Exit.then K9 Q9 .normal { tmps := #[.pointer (some ⟨kb, 0, none⟩), u1, u2, u3, u4, u5, .pointer (some ⟨w.heap.size, 0, none⟩), u7, .pointer (some ⟨gh, 0, none⟩), u9, u10, u11, u12, u13, u14, u15, u16, u17, u18, u19, u20, u21, u22, u23, u24, u25, u26, u27, u28, u29, undef, undef, undef, undef, undef, undef, undef, undef, undef, undef, undef, undef, undef], defers := [] } VF) := by
    intro VF gh u1 u2 u3 u4 u5 u7 u9 u10 u11 u12 u13 u14 u15 u16 u17 u18 u19 u20 u21 u22 u23 u24 u25 u26 u27 u28 u29 P hH hg2 hgh
    refine hK9 _ _ ?_
    have A0 := unhide KA _ P.bel
    have D0 : Below VF.drew.heap.size VF.drew VF.drew := Below.refl _ _
    have KS : Hid (∀ V, Below VF.drew.heap.size VF.drew V → V.cell? ⟨gh, 0, none⟩ = some (.int .u64 ((tgP key nb nc fb fc).1 : Nat)) ∧ V.cell? ⟨gh, 1, none⟩ = some (.int .u64 ((tgP key nb nc fb fc).2 : Nat)) ∧ V.cell? ⟨kb, 0, none⟩ = some (.pointer (some ⟨cb, 0, none⟩)) ∧ V.rangeAt kb 3 (us 16 (at8 nonce))) := fun V hV => by
      have q := hH.drew.keep hV (by rw [World.size_drew]; exact hg2)
      have a := (⟨A0.c0, A0.c1, A0.c2, A0.st.drew, A0.ci.drew⟩ : SK VF.drew kb cb key nonce).keep hV
      exact ⟨q.c0, q.c1, a.c0, a.st.range⟩
    have KC : Hid (∀ V, Below VF.drew.heap.size VF.drew V → Ar V cb 0 432 (ck (at8 key) 10)) := fun V hV => A0.ci.drew.below hV A0.ci.lt
    have KR : Hid (∀ V, Below VF.drew.heap.size VF.drew V → Ar V w.heap.size 0 16 (fun _ => 0)) := fun V hV => P.res.drew.below hV P.res.lt
    have hu := Try.underlying84
    have hi16 : (Try.prog.info? 84).map (·.size) = some (us 16 (at8 nonce)).length := by rw [us_length]; exact info_bl
    have hpl := tgP_lt key nb nc fb fc
    have HBL := hide (fun V => implBlock (tgP key nb nc fb fc).1 (tgP key nb nc fb fc).2 hpl.1 hpl.2 V)
    have HPL : Hid (∀ V, Calls Try.prog 52 #[.agg (us 16 (at8 nonce)).toArray, .int .i64 1] V fun e w' => e = .returned (.agg (us 16 (plB (at8 nonce) 1)).toArray) ∧ Below V.heap.size V w') := fun V => implPlus (at8 nonce) 1 (at8_lt nonce) (by omega) V
    have HFO := hide (fun V (h : Ar V cb 0 432 (ck (at8 key) 10)) => implForward cb (at8 key) (plB (at8 nonce) 1) (at8_lt key) (plB_lt _ (at8_lt nonce) 1) V h)
    have HXO : Hid (∀ V, Calls Try.prog 71 #[.agg (us 16 (blF (tgP key nb nc fb fc).1 (tgP key nb nc fb fc).2)).toArray, .agg (us 16 (fw (rk (at8 key)) (plB (at8 nonce) 1) 10)).toArray] V fun e w' => e = .returned (.agg (us 16 (tgB key nonce nb nc fb fc)).toArray) ∧ Below V.heap.size V w') := fun V => implXored (blF (tgP key nb nc fb fc).1 (tgP key nb nc fb fc).2) (fw (rk (at8 key)) (plB (at8 nonce) 1) 10) (blF_lt _ _) (fw_lt (rk (at8 key)) _ (fun n i => rk_lt (at8 key) (at8_lt key) n i) (plB_lt _ (at8_lt nonce) 1) 10) V
    have P1 : Fr W3.drew VF.drew B gb w.heap.size gl lf (capc = nc ∧ gc < gb) := ⟨P.bel.drew, fun h => (P.beg h).drew, P.res.drew, P.len.drew, P.sz, P.hB, P.hg⟩
    have HP := hide P1
    have hg3 : gh < VF.drew.heap.size := by rw [World.size_drew]; exact hg2
    clear P P1 hH A0 hpl
    generalize htb : tgB key nonce nb nc fb fc = tb at *
    have HTB := hide htb
    clear htb
    generalize blF (tgP key nb nc fb fc).1 (tgP key nb nc fb fc).2 = bb at *
    generalize fw (rk (at8 key)) (plB (at8 nonce) 1) 10 = ff at *
    generalize plB (at8 nonce) 1 = pp at *
    generalize (tgP key nb nc fb fc).1 = x at *
    generalize (tgP key nb nc fb fc).2 = y at *
    go_wp2_with fail
    refine wp_region_held_drew (S := fun V => V.cell? ⟨gh, 0, none⟩ = some (.int .u64 (x : Nat)) ∧ V.cell? ⟨gh, 1, none⟩ = some (.int .u64 (y : Nat)) ∧ V.cell? ⟨kb, 0, none⟩ = some (.pointer (some ⟨cb, 0, none⟩)) ∧ V.rangeAt kb 3 (us 16 (at8 nonce))) (by kernel_rfl) (unhide KS _ D0) (fun hHeld => ?_)
    generalize VF.drew = V0 at *
    refine wpAnyH_take (i := 0) (v := ?_) rfl (by kernel_rfl) (by kernel_rfl) (by kernel_rfl) (fun _ _ _ h => h) (Or.inl ⟨by rfl, ?_⟩) hHeld ?_
    rotate_left
    · intro V hSw; go_simp; rfl
    simp only [Act.put, List.getElem_toArray, List.getElem_cons_zero, List.setIfInBounds_toArray, List.set_cons_zero, List.set_cons_succ]
    refine wpAnyH_take (i := 2) (v := ?_) rfl (by kernel_rfl) (by kernel_rfl) (by kernel_rfl) (fun _ _ _ h => h) (Or.inl ⟨by rfl, ?_⟩) hHeld ?_
    rotate_left
    · intro V hSw; go_simp; rfl
    simp only [Act.put, List.getElem_toArray, List.getElem_cons_succ, List.getElem_cons_zero, List.setIfInBounds_toArray, List.set_cons_zero, List.set_cons_succ]
    refine wpAnyH_take (i := 3) (v := ?_) rfl (by kernel_rfl) (by kernel_rfl) (by kernel_rfl) (fun _ _ _ h => h) (Or.inl ⟨by rfl, ?_⟩) hHeld ?_
    rotate_left
    · intro V hSw; go_simp; rfl
    simp only [Act.put, List.getElem_toArray, List.getElem_cons_succ, List.getElem_cons_zero, List.setIfInBounds_toArray, List.set_cons_zero, List.set_cons_succ]
    refine wpAnyH_take (i := 4) (v := ?_) rfl (by kernel_rfl) (by kernel_rfl) (by kernel_rfl) (fun _ _ _ h => h) (Or.inl ⟨by rfl, ?_⟩) hHeld ?_
    rotate_left
    · intro V hSw; go_simp; rfl
    simp only [Act.put, List.getElem_toArray, List.getElem_cons_succ, List.getElem_cons_zero, List.setIfInBounds_toArray, List.set_cons_zero, List.set_cons_succ]
    refine wpAnyH_take (i := 5) (v := ?_) rfl (by kernel_rfl) (by kernel_rfl) (by kernel_rfl) (fun _ _ _ h => h) (Or.inl ⟨by rfl, ?_⟩) hHeld ?_
    rotate_left
    · intro V hSw; go_simp; rfl
    simp only [Act.put, List.getElem_toArray, List.getElem_cons_succ, List.getElem_cons_zero, List.setIfInBounds_toArray, List.set_cons_zero, List.set_cons_succ]
    refine wpAnyH_take (i := 6) (v := ?_) rfl (by kernel_rfl) (by kernel_rfl) (by kernel_rfl) (fun _ _ _ h => h) (Or.inl ⟨by rfl, ?_⟩) hHeld ?_
    rotate_left
    · intro V hSw; go_simp; rfl
    simp only [Act.put, List.getElem_toArray, List.getElem_cons_succ, List.getElem_cons_zero, List.setIfInBounds_toArray, List.set_cons_zero, List.set_cons_succ]
    refine wpAnyH_take (i := 7) (v := ?_) rfl (by kernel_rfl) (by kernel_rfl) (by kernel_rfl) (fun _ _ _ h => h) (Or.inl ⟨by rfl, ?_⟩) hHeld ?_
    rotate_left
    · intro V hSw; go_simp; rfl
    simp only [Act.put, List.getElem_toArray, List.getElem_cons_succ, List.getElem_cons_zero, List.setIfInBounds_toArray, List.set_cons_zero, List.set_cons_succ]
    refine wpAnyH_take (i := 8) (v := ?_) rfl (by kernel_rfl) (by kernel_rfl) (by kernel_rfl) (fun _ _ _ h => h) (Or.inl ⟨by rfl, ?_⟩) hHeld ?_
    rotate_left
    · intro V hSw; go_simp; rfl
    simp only [Act.put, List.getElem_toArray, List.getElem_cons_succ, List.getElem_cons_zero, List.setIfInBounds_toArray, List.set_cons_zero, List.set_cons_succ]
    refine wpAnyH_take (i := 9) (v := .agg (us 16 (at8 nonce)).toArray) rfl (by kernel_rfl) (by kernel_rfl) (by kernel_rfl) (fun _ _ _ h => h) (yieldsIf_load_mid (by rfl) 84 (.tmp 38) rfl kb 3 rfl (us 16 (at8 nonce)) _ (fun V h => h.2.2.2) hu rfl hi16) hHeld ?_
    try simp only [Act.put, List.getElem_toArray, List.getElem_cons_succ, List.getElem_cons_zero, List.setIfInBounds_toArray, List.set_cons_zero, List.set_cons_succ]
    refine wpAnyH_ready (rs := [1]) (by kernel_rfl) (by simp) ?_
    refine AllReadyH.cons rfl (fun K hK => ?_) AllReadyH.nil
    go_simp
    go_at_call 68
    refine (unhide HBL _).mono ?_
    rintro e w5 ⟨rfl, b5⟩
    refine hK.out _ _ (unhide KS _ b5) (fun hHeld => ?_)
    clear hK K
    try simp only [Act.put, List.getElem_toArray, List.getElem_cons_succ, List.getElem_cons_zero, List.setIfInBounds_toArray, List.set_cons_zero, List.set_cons_succ]
    refine wpAnyH_ready (rs := [10]) (by kernel_rfl) (by simp) ?_
    refine AllReadyH.cons rfl (fun K hK => ?_) AllReadyH.nil
    go_simp
    go_at_call 52
    refine (unhide HPL _).mono ?_
    rintro e w6 ⟨rfl, b6⟩
    have b56 := b5.trans (b6.mono b5.size)
    refine hK.out _ _ (unhide KS _ b56) (fun hHeld => ?_)
    clear hK K
    try simp only [Act.put, List.getElem_toArray, List.getElem_cons_succ, List.getElem_cons_zero, List.setIfInBounds_toArray, List.set_cons_zero, List.set_cons_succ]
    refine wpAnyH_ready (rs := [11]) (by kernel_rfl) (by simp) ?_
    refine AllReadyH.cons rfl (fun K hK => ?_) AllReadyH.nil
    go_simp
    go_at_call 66
    refine (unhide HFO _ (unhide KC _ b56)).mono ?_
    rintro e w7 ⟨rfl, b7⟩
    have b57 := b56.trans (b7.mono b56.size)
    refine hK.out _ _ (unhide KS _ b57) (fun hHeld => ?_)
    clear hK K
    try simp only [Act.put, List.getElem_toArray, List.getElem_cons_succ, List.getElem_cons_zero, List.setIfInBounds_toArray, List.set_cons_zero, List.set_cons_succ]
    refine wpAnyH_ready (rs := [12]) (by kernel_rfl) (by simp) ?_
    refine AllReadyH.cons rfl (fun K hK => ?_) AllReadyH.nil
    go_simp
    go_at_call 71
    refine (unhide HXO _).mono ?_
    rintro e w8 ⟨rfl, b8⟩
    have b58 := b57.trans (b8.mono b57.size)
    refine hK.out _ _ (unhide KS _ b58) (fun hHeld => ?_)
    clear hK K
    try simp only [Act.put, List.getElem_toArray, List.getElem_cons_succ, List.getElem_cons_zero, List.setIfInBounds_toArray, List.set_cons_zero, List.set_cons_succ]
    refine wpAnyH_ready (rs := [13]) (by kernel_rfl) (by simp) ?_
    refine AllReadyH.cons rfl (fun K hK => ?_) AllReadyH.nil
    rw [if_pos (by rfl)]
    refine wp_store_mid 84 (.tmp 6) (.tmp 42) rfl w.heap.size 0 (us 16 tb).toArray rfl rfl (by rw [us_size]; exact (unhide KR _ b58).there) (by rw [us_size]; exact info_bl) (us_one _ _) ?_
    have PE := (unhide HP).below b58
    have RE := (unhide KR _ b58).puts (g := tb)
    have BE := Go.Proofs.Ytkpodgeinanceaa.below_setCells (b := w.heap.size) (show B ≤ w.heap.size by omega) (us 16 tb) 0 _ PE.bel
    have GE := fun h => Go.Proofs.Ytkpodgeinanceaa.below_setCells (b := w.heap.size) (show gb ≤ w.heap.size by omega) (us 16 tb) 0 _ (PE.beg h)
    have SE : ((w8.setCells w.heap.size 0 (us 16 tb)).cell? ⟨gh, 0, none⟩ = some (.int .u64 (x : Nat)) ∧ (w8.setCells w.heap.size 0 (us 16 tb)).cell? ⟨gh, 1, none⟩ = some (.int .u64 (y : Nat)) ∧ (w8.setCells w.heap.size 0 (us 16 tb)).cell? ⟨kb, 0, none⟩ = some (.pointer (some ⟨cb, 0, none⟩)) ∧ (w8.setCells w.heap.size 0 (us 16 tb)).rangeAt kb 3 (us 16 (at8 nonce))) := by
      obtain ⟨z1, z2, z3, z4⟩ := unhide KS _ b58
      refine ⟨?_, ?_, ?_, World.rangeAt_setCells_apart z4 w.heap.size 0 (us 16 tb) (Or.inl (by omega))⟩
      · rw [World.cell?_setCells_out w.heap.size _ 0 w8 _ (fun h _ => absurd h (by show gh ≠ w.heap.size; omega))]; exact z1
      · rw [World.cell?_setCells_out w.heap.size _ 0 w8 _ (fun h _ => absurd h (by show gh ≠ w.heap.size; omega))]; exact z2
      · rw [World.cell?_setCells_out w.heap.size _ 0 w8 _ (fun h _ => absurd h (by show kb ≠ w.heap.size; omega))]; exact z3
    refine hK.out _ _ (by rw [List.toList_toArray]; exact SE) (fun hHeld => ?_)
    clear hK K
    try simp only [Act.put, List.getElem_toArray, List.getElem_cons_succ, List.getElem_cons_zero]
    refine wpAnyH_done (by kernel_rfl) ?_ _
    have HRE := hide RE
    have HBE := hide (((unhide A3d).mono (by omega)).trans BE)
    have HGE := hide (fun h => ((unhide A3d).mono (show gb ≤ w.heap.size by omega)).trans (GE h))
    clear RE BE GE SE PE hHeld b5 b6 b7 b8 b56 b57 b58
    generalize w8.setCells w.heap.size 0 (us 16 tb) = W9 at HRE HBE HGE ⊢
    go_wp2
    refine ret_arr 6 w.heap.size 16 84 _ tb ?r1 ?r2 ?r3 (unhide HRE) Try.underlying84 rfl info_bl ?_
    case r1 => rfl
    case r2 => rfl
    case r3 => rfl
    exact ⟨by rw [unhide HTB], unhide HBE, fun h1 h2 => unhide HGE ⟨h1, h2⟩⟩
  refine wp_region_held_drew (S := fun V => V.cell? ⟨kb, 1, none⟩ = some (.int .u64 (hkH key : Nat)) ∧ V.cell? ⟨kb, 2, none⟩ = some (.int .u64 (hkL key : Nat))) (by kernel_rfl) (unhide KQ _ (Below.refl _ _)) (fun hHeld => ?_)
  generalize W3.drew = W0 at *
  refine wpAnyH_take (i := 0) (v := ?_) rfl (by kernel_rfl) (by kernel_rfl) (by kernel_rfl) (fun _ _ _ h => h) (Or.inl ⟨by rfl, ?_⟩) hHeld ?_
  rotate_left
  · intro V hSw; go_simp; rfl
  simp only [Act.put, List.getElem_toArray, List.getElem_cons_zero, List.setIfInBounds_toArray, List.set_cons_zero, List.set_cons_succ]
  refine wpAnyH_take (i := 1) (v := ?_) rfl (by kernel_rfl) (by kernel_rfl) (by kernel_rfl) (fun _ _ _ h => h) (Or.inl ⟨by rfl, ?_⟩) hHeld ?_
  rotate_left
  · intro V hSw; go_simp; rfl
  simp only [Act.put, List.getElem_toArray, List.getElem_cons_succ, List.getElem_cons_zero, List.setIfInBounds_toArray, List.set_cons_zero, List.set_cons_succ]
  refine wpAnyH_take (i := 2) (v := ?_) rfl (by kernel_rfl) (by kernel_rfl) (by kernel_rfl) (fun _ _ _ h => h) (Or.inl ⟨by rfl, ?_⟩) hHeld ?_
  rotate_left
  · intro V hSw; go_simp; rfl
  simp only [Act.put, List.getElem_toArray, List.getElem_cons_succ, List.getElem_cons_zero, List.setIfInBounds_toArray, List.set_cons_zero, List.set_cons_succ]
  refine wpAnyH_take (i := 3) (v := ?_) rfl (by kernel_rfl) (by kernel_rfl) (by kernel_rfl) (fun _ _ _ h => h) (Or.inl ⟨by rfl, ?_⟩) hHeld ?_
  rotate_left
  · intro V hSw; go_simp; rfl
  simp only [Act.put, List.getElem_toArray, List.getElem_cons_succ, List.getElem_cons_zero, List.setIfInBounds_toArray, List.set_cons_zero, List.set_cons_succ]
  refine wpAnyH_take (i := 4) (v := ?_) rfl (by kernel_rfl) (by kernel_rfl) (by kernel_rfl) (fun _ _ _ h => h) (Or.inl ⟨by rfl, ?_⟩) hHeld ?_
  rotate_left
  · intro V hSw; go_simp; rfl
  simp only [Act.put, List.getElem_toArray, List.getElem_cons_succ, List.getElem_cons_zero, List.setIfInBounds_toArray, List.set_cons_zero, List.set_cons_succ]
  refine wpAnyH_take (i := 6) (v := ?_) rfl (by kernel_rfl) (by kernel_rfl) (by kernel_rfl) (fun _ _ _ h => h) (Or.inl ⟨by rfl, ?_⟩) hHeld ?_
  rotate_left
  · intro V hSw; go_simp; rfl
  simp only [Act.put, List.getElem_toArray, List.getElem_cons_succ, List.getElem_cons_zero, List.setIfInBounds_toArray, List.set_cons_zero, List.set_cons_succ]
  refine wpAnyH_take (i := 8) (v := ?_) rfl (by kernel_rfl) (by kernel_rfl) (by kernel_rfl) (fun _ _ _ h => h) (Or.inl ⟨by rfl, ?_⟩) hHeld ?_
  rotate_left
  · intro V hSw; go_simp; rfl
  simp only [Act.put, List.getElem_toArray, List.getElem_cons_succ, List.getElem_cons_zero, List.setIfInBounds_toArray, List.set_cons_zero, List.set_cons_succ]
  refine wpAnyH_ready (rs := [5, 11]) (by kernel_rfl) (by simp) ?_
  refine AllReadyH.cons rfl (fun K hK => ?_) (AllReadyH.cons rfl (fun K hK => ?_) AllReadyH.nil)
  go_simp
  go_at_call 70
  refine (implFilled gb ob nb capb fb (by omega) _ SB).mono ?_
  have hz0 := P.sz
  rintro e V1 ⟨v, rfl, F⟩
  obtain ⟨g5, o5, c5, rfl, s5, hg5, ot, bl, be⟩ := F
  have hq5 : g5 = gb ∨ W0.heap.size ≤ g5 := by omega
  clear hg5 hz0
  have P := P.fill ot bl (fun _ => bl gb (Nat.le_refl _) (Nat.le_trans hgbW P.sz)) hB3 hBW hr1 hl1
  refine hK.out _ _ (unhide KQ _ P.bel) (fun hHeld => ?_)
  clear hK K
  try simp only [Act.put, List.getElem_toArray, List.getElem_cons_succ, List.getElem_cons_zero, List.setIfInBounds_toArray, List.set_cons_zero, List.set_cons_succ]
  have SC := sg_ot ot SC (Ne.symm hne)
  have A5 := s5.ar
  have l5 := s5.le
  have lt5 : g5 < V1.heap.size := A5.lt
  clear ot bl be s5
  refine wpAnyH_ready (rs := [7, 11]) (by kernel_rfl) (by simp) ?_
  refine AllReadyH.cons rfl (fun K hK => ?_) (AllReadyH.cons rfl (fun K hK => ?_) AllReadyH.nil)
  go_simp
  go_at_call 70
  refine (implFilled gc oc nc capc fc (by omega) _ SC).mono ?_
  have hz0 := P.sz
  rintro e V2 ⟨v, rfl, F⟩
  obtain ⟨g7, o7, c7, rfl, s7, hg7, ot, bl, be⟩ := F
  have hq7 : g7 = gc ∨ W0.heap.size ≤ g7 := by omega
  clear hg7 hz0
  have P := P.fill ot bl (fun h => (be h.1).1.mono (Nat.le_trans hgbW P.sz)) hB4 hBW hr2 hl2
  refine hK.out _ _ (unhide KQ _ P.bel) (fun hHeld => ?_)
  clear hK K
  try simp only [Act.put, List.getElem_toArray, List.getElem_cons_succ, List.getElem_cons_zero, List.setIfInBounds_toArray, List.set_cons_zero, List.set_cons_succ]
  have A5 := ot.ar A5 (by omega)
  have A7 := s7.ar
  have l7 := s7.le
  have lt7 : g7 < V2.heap.size := A7.lt
  clear ot bl be s7
  refine wpAnyH_ready (rs := [9, 11]) (by kernel_rfl) (by simp) ?_
  refine AllReadyH.cons rfl (fun K hK => ?_) (AllReadyH.cons rfl (fun K hK => ?_) AllReadyH.nil)
  go_simp
  refine hK.out _ _ (unhide KQ _ (P.alloc (.cells #[.slice (some ⟨g5, o5, none⟩) (flN nb) c5, .slice (some ⟨g7, o7, none⟩) (flN nc) c7, .slice (some ⟨gl, 0, none⟩) 16 16] 32)).bel) (fun hHeld => ?_)
  clear hK K
  try simp only [Act.put, List.getElem_toArray, List.getElem_cons_succ, List.getElem_cons_zero, List.setIfInBounds_toArray, List.set_cons_zero, List.set_cons_succ]
  have T := tx_three V2 gl g5 o5 c5 g7 o7 c7 nb nc fb fc lf HLF (by omega) (by omega) l5 l7 A5 A7 P.len 32
  have P := P.alloc (.cells #[.slice (some ⟨g5, o5, none⟩) (flN nb) c5, .slice (some ⟨g7, o7, none⟩) (flN nc) c7, .slice (some ⟨gl, 0, none⟩) 16 16] 32)
  generalize V2.alloc (.cells #[.slice (some ⟨g5, o5, none⟩) (flN nb) c5, .slice (some ⟨g7, o7, none⟩) (flN nc) c7, .slice (some ⟨gl, 0, none⟩) 16 16] 32) = V3 at T P ⊢
  generalize V2.heap.size = gs at T ⊢
  clear A5 A7
  refine wpAnyH_ready (rs := [10, 11]) (by kernel_rfl) (by simp) ?_
  refine AllReadyH.cons rfl (fun K hK => ?_) (AllReadyH.cons rfl (fun K hK => ?_) AllReadyH.nil)
  go_simp
  go_at_call 69
  refine (unhide HHO gs g5 o5 c5 g7 o7 c7 _ T).mono ?_
  rintro e V4 ⟨rfl, b9⟩
  have P := P.below b9
  refine hK.out _ _ (unhide KQ _ P.bel) (fun hHeld => ?_)
  clear hK K
  try simp only [Act.put, List.getElem_toArray, List.getElem_cons_succ, List.getElem_cons_zero, List.setIfInBounds_toArray, List.set_cons_zero, List.set_cons_succ]
  clear T b9
  refine wpAnyH_ready (rs := [11]) (by kernel_rfl) (by simp) ?_
  refine AllReadyH.cons rfl (fun K hK => ?_) AllReadyH.nil
  go_simp
  refine hK.out _ _ (unhide KQ _ (P.alloc (.cells #[.int .u64 0, .int .u64 0] 82)).bel) (fun hHeld => ?_)
  clear hK K
  try simp only [Act.put, List.getElem_toArray, List.getElem_cons_succ, List.getElem_cons_zero, List.setIfInBounds_toArray, List.set_cons_zero, List.set_cons_succ]
  have hH := q2_own V4 0 0 82
  obtain ⟨gh, hghd⟩ : ∃ g, V4.heap.size = g := ⟨_, rfl⟩
  have hgh : W0.heap.size ≤ gh := by rw [← hghd]; exact P.sz
  have P := P.alloc (.cells #[.int .u64 0, .int .u64 0] 82)
  have hg2 : V4.heap.size < (V4.alloc (.cells #[.int .u64 0, .int .u64 0] 82)).heap.size := by rw [World.size_alloc]; omega
  generalize V4.alloc (.cells #[.int .u64 0, .int .u64 0] 82) = V5 at hH hg2 P ⊢
  rw [hghd] at hH hg2 ⊢
  clear hghd
  refine wpAnyH_ready (rs := [12]) (by kernel_rfl) (by simp) ?_
  refine AllReadyH.cons rfl (fun K hK => ?_) AllReadyH.nil
  have k0 := hH.c0
  have k1 := hH.c1
  have k2 := hH.f0
  have k3 := hH.f1
  go_simp
  have P := P.two (x := .int .u64 ((tgP key nb nc fb fc).1 : Nat)) (y := .int .u64 ((tgP key nb nc fb fc).2 : Nat)) (by omega : gh ≠ w.heap.size) (by omega) (show B ≤ gh by omega) (show gb ≤ gh by omega)
  refine hK.out _ _ (unhide KQ _ P.bel) (fun hHeld => ?_)
  clear hK K
  try simp only [Act.put, List.getElem_toArray, List.getElem_cons_succ, List.getElem_cons_zero, List.setIfInBounds_toArray, List.set_cons_zero, List.set_cons_succ]
  have hH := (hH.put0 (tgP key nb nc fb fc).1).put1 (tgP key nb nc fb fc).2
  have hg2 : gh < ((V5.setCell ⟨gh, 0, none⟩ (.int .u64 ((tgP key nb nc fb fc).1 : Nat))).setCell ⟨gh, 1, none⟩ (.int .u64 ((tgP key nb nc fb fc).2 : Nat))).heap.size := by
    simp only [World.setCell, Array.size_modify]
    exact hg2
  generalize (V5.setCell ⟨gh, 0, none⟩ (.int .u64 ((tgP key nb nc fb fc).1 : Nat))).setCell ⟨gh, 1, none⟩ (.int .u64 ((tgP key nb nc fb fc).2 : Nat)) = VF at P hH hg2 ⊢
  clear k0 k1 k2 k3
  refine wpAnyH_done (by kernel_rfl) ?_ _
  exact unhide FIN VF gh _ _ _ _ _ _ _ _ _ _ _ _ _ _ _ _ _ _ _ _ _ _ _ _ _ _ _ P hH hg2 hgh
  go_simp
  refine hK.out _ _ (unhide KQ _ (P.alloc (.cells #[.int .u64 0, .int .u64 0] 82)).bel) (fun hHeld => ?_)
  clear hK K
  try simp only [Act.put, List.getElem_toArray, List.getElem_cons_succ, List.getElem_cons_zero, List.setIfInBounds_toArray, List.set_cons_zero, List.set_cons_succ]
  have hH := q2_own V3 0 0 82
  obtain ⟨gh, hghd⟩ : ∃ g, V3.heap.size = g := ⟨_, rfl⟩
  have hgh : W0.heap.size ≤ gh := by rw [← hghd]; exact P.sz
  have P := P.alloc (.cells #[.int .u64 0, .int .u64 0] 82)
  have T := T.alloc (.cells #[.int .u64 0, .int .u64 0] 82)
  have hg2 : V3.heap.size < (V3.alloc (.cells #[.int .u64 0, .int .u64 0] 82)).heap.size := by rw [World.size_alloc]; omega
  generalize V3.alloc (.cells #[.int .u64 0, .int .u64 0] 82) = V4 at hH hg2 P T ⊢
  rw [hghd] at hH hg2 ⊢
  clear hghd
  refine wpAnyH_ready (rs := [10]) (by kernel_rfl) (by simp) ?_
  refine AllReadyH.cons rfl (fun K hK => ?_) AllReadyH.nil
  go_simp
  go_at_call 69
  refine (unhide HHO gs g5 o5 c5 g7 o7 c7 _ T).mono ?_
  rintro e V5 ⟨rfl, b9⟩
  have P := P.below b9
  refine hK.out _ _ (unhide KQ _ P.bel) (fun hHeld => ?_)
  clear hK K
  try simp only [Act.put, List.getElem_toArray, List.getElem_cons_succ, List.getElem_cons_zero, List.setIfInBounds_toArray, List.set_cons_zero, List.set_cons_succ]
  have hH := hH.keep b9 hg2
  have hg2 : gh < V5.heap.size := Nat.lt_of_lt_of_le hg2 b9.size
  clear T b9
  refine wpAnyH_ready (rs := [12]) (by kernel_rfl) (by simp) ?_
  refine AllReadyH.cons rfl (fun K hK => ?_) AllReadyH.nil
  have k0 := hH.c0
  have k1 := hH.c1
  have k2 := hH.f0
  have k3 := hH.f1
  go_simp
  have P := P.two (x := .int .u64 ((tgP key nb nc fb fc).1 : Nat)) (y := .int .u64 ((tgP key nb nc fb fc).2 : Nat)) (by omega : gh ≠ w.heap.size) (by omega) (show B ≤ gh by omega) (show gb ≤ gh by omega)
  refine hK.out _ _ (unhide KQ _ P.bel) (fun hHeld => ?_)
  clear hK K
  try simp only [Act.put, List.getElem_toArray, List.getElem_cons_succ, List.getElem_cons_zero, List.setIfInBounds_toArray, List.set_cons_zero, List.set_cons_succ]
  have hH := (hH.put0 (tgP key nb nc fb fc).1).put1 (tgP key nb nc fb fc).2
  have hg2 : gh < ((V5.setCell ⟨gh, 0, none⟩ (.int .u64 ((tgP key nb nc fb fc).1 : Nat))).setCell ⟨gh, 1, none⟩ (.int .u64 ((tgP key nb nc fb fc).2 : Nat))).heap.size := by
    simp only [World.setCell, Array.size_modify]
    exact hg2
  generalize (V5.setCell ⟨gh, 0, none⟩ (.int .u64 ((tgP key nb nc fb fc).1 : Nat))).setCell ⟨gh, 1, none⟩ (.int .u64 ((tgP key nb nc fb fc).2 : Nat)) = VF at P hH hg2 ⊢
  clear k0 k1 k2 k3
  refine wpAnyH_done (by kernel_rfl) ?_ _
  exact unhide FIN VF gh _ _ _ _ _ _ _ _ _ _ _ _ _ _ _ _ _ _ _ _ _ _ _ _ _ _ _ P hH hg2 hgh
  go_simp
  refine hK.out _ _ (unhide KQ _ (P.alloc (.cells #[.int .u64 0, .int .u64 0] 82)).bel) (fun hHeld => ?_)
  clear hK K
  try simp only [Act.put, List.getElem_toArray, List.getElem_cons_succ, List.getElem_cons_zero, List.setIfInBounds_toArray, List.set_cons_zero, List.set_cons_succ]
  have hH := q2_own V2 0 0 82
  obtain ⟨gh, hghd⟩ : ∃ g, V2.heap.size = g := ⟨_, rfl⟩
  have hgh : W0.heap.size ≤ gh := by rw [← hghd]; exact P.sz
  have P := P.alloc (.cells #[.int .u64 0, .int .u64 0] 82)
  have A5 := A5.alloc (.cells #[.int .u64 0, .int .u64 0] 82)
  have A7 := A7.alloc (.cells #[.int .u64 0, .int .u64 0] 82)
  have hg2 : V2.heap.size < (V2.alloc (.cells #[.int .u64 0, .int .u64 0] 82)).heap.size := by rw [World.size_alloc]; omega
  generalize V2.alloc (.cells #[.int .u64 0, .int .u64 0] 82) = V3 at hH hg2 P A5 A7 ⊢
  rw [hghd] at hH hg2 ⊢
  clear hghd
  refine wpAnyH_ready (rs := [9]) (by kernel_rfl) (by simp) ?_
  refine AllReadyH.cons rfl (fun K hK => ?_) AllReadyH.nil
  go_simp
  refine hK.out _ _ (unhide KQ _ (P.alloc (.cells #[.slice (some ⟨g5, o5, none⟩) (flN nb) c5, .slice (some ⟨g7, o7, none⟩) (flN nc) c7, .slice (some ⟨gl, 0, none⟩) 16 16] 32)).bel) (fun hHeld => ?_)
  clear hK K
  try simp only [Act.put, List.getElem_toArray, List.getElem_cons_succ, List.getElem_cons_zero, List.setIfInBounds_toArray, List.set_cons_zero, List.set_cons_succ]
  have T := tx_three V3 gl g5 o5 c5 g7 o7 c7 nb nc fb fc lf HLF (by omega) (by omega) l5 l7 A5 A7 P.len 32
  have P := P.alloc (.cells #[.slice (some ⟨g5, o5, none⟩) (flN nb) c5, .slice (some ⟨g7, o7, none⟩) (flN nc) c7, .slice (some ⟨gl, 0, none⟩) 16 16] 32)
  have hH := hH.alloc (.cells #[.slice (some ⟨g5, o5, none⟩) (flN nb) c5, .slice (some ⟨g7, o7, none⟩) (flN nc) c7, .slice (some ⟨gl, 0, none⟩) 16 16] 32) hg2
  have hg2 : gh < (V3.alloc (.cells #[.slice (some ⟨g5, o5, none⟩) (flN nb) c5, .slice (some ⟨g7, o7, none⟩) (flN nc) c7, .slice (some ⟨gl, 0, none⟩) 16 16] 32)).heap.size := by rw [World.size_alloc]; omega
  generalize V3.alloc (.cells #[.slice (some ⟨g5, o5, none⟩) (flN nb) c5, .slice (some ⟨g7, o7, none⟩) (flN nc) c7, .slice (some ⟨gl, 0, none⟩) 16 16] 32) = V4 at T P hH hg2 ⊢
  generalize V3.heap.size = gs at T ⊢
  clear A5 A7
  refine wpAnyH_ready (rs := [10]) (by kernel_rfl) (by simp) ?_
  refine AllReadyH.cons rfl (fun K hK => ?_) AllReadyH.nil
  go_simp
  go_at_call 69
  refine (unhide HHO gs g5 o5 c5 g7 o7 c7 _ T).mono ?_
  rintro e V5 ⟨rfl, b9⟩
  have P := P.below b9
  refine hK.out _ _ (unhide KQ _ P.bel) (fun hHeld => ?_)
  clear hK K
  try simp only [Act.put, List.getElem_toArray, List.getElem_cons_succ, List.getElem_cons_zero, List.setIfInBounds_toArray, List.set_cons_zero, List.set_cons_succ]
  have hH := hH.keep b9 hg2
  have hg2 : gh < V5.heap.size := Nat.lt_of_lt_of_le hg2 b9.size
  clear T b9
  refine wpAnyH_ready (rs := [12]) (by kernel_rfl) (by simp) ?_
  refine AllReadyH.cons rfl (fun K hK => ?_) AllReadyH.nil
  have k0 := hH.c0
  have k1 := hH.c1
  have k2 := hH.f0
  have k3 := hH.f1
  go_simp
  have P := P.two (x := .int .u64 ((tgP key nb nc fb fc).1 : Nat)) (y := .int .u64 ((tgP key nb nc fb fc).2 : Nat)) (by omega : gh ≠ w.heap.size) (by omega) (show B ≤ gh by omega) (show gb ≤ gh by omega)
  refine hK.out _ _ (unhide KQ _ P.bel) (fun hHeld => ?_)
  clear hK K
  try simp only [Act.put, List.getElem_toArray, List.getElem_cons_succ, List.getElem_cons_zero, List.setIfInBounds_toArray, List.set_cons_zero, List.set_cons_succ]
  have hH := (hH.put0 (tgP key nb nc fb fc).1).put1 (tgP key nb nc fb fc).2
  have hg2 : gh < ((V5.setCell ⟨gh, 0, none⟩ (.int .u64 ((tgP key nb nc fb fc).1 : Nat))).setCell ⟨gh, 1, none⟩ (.int .u64 ((tgP key nb nc fb fc).2 : Nat))).heap.size := by
    simp only [World.setCell, Array.size_modify]
    exact hg2
  generalize (V5.setCell ⟨gh, 0, none⟩ (.int .u64 ((tgP key nb nc fb fc).1 : Nat))).setCell ⟨gh, 1, none⟩ (.int .u64 ((tgP key nb nc fb fc).2 : Nat)) = VF at P hH hg2 ⊢
  clear k0 k1 k2 k3
  refine wpAnyH_done (by kernel_rfl) ?_ _
  exact unhide FIN VF gh _ _ _ _ _ _ _ _ _ _ _ _ _ _ _ _ _ _ _ _ _ _ _ _ _ _ _ P hH hg2 hgh
  go_simp
  refine hK.out _ _ (unhide KQ _ (P.alloc (.cells #[.int .u64 0, .int .u64 0] 82)).bel) (fun hHeld => ?_)
  clear hK K
  try simp only [Act.put, List.getElem_toArray, List.getElem_cons_succ, List.getElem_cons_zero, List.setIfInBounds_toArray, List.set_cons_zero, List.set_cons_succ]
  have hH := q2_own V1 0 0 82
  obtain ⟨gh, hghd⟩ : ∃ g, V1.heap.size = g := ⟨_, rfl⟩
  have hgh : W0.heap.size ≤ gh := by rw [← hghd]; exact P.sz
  have P := P.alloc (.cells #[.int .u64 0, .int .u64 0] 82)
  have SC := SC.alloc (.cells #[.int .u64 0, .int .u64 0] 82)
  have A5 := A5.alloc (.cells #[.int .u64 0, .int .u64 0] 82)
  have hg2 : V1.heap.size < (V1.alloc (.cells #[.int .u64 0, .int .u64 0] 82)).heap.size := by rw [World.size_alloc]; omega
  generalize V1.alloc (.cells #[.int .u64 0, .int .u64 0] 82) = V2 at hH hg2 P SC A5 ⊢
  rw [hghd] at hH hg2 ⊢
  clear hghd
  refine wpAnyH_ready (rs := [7]) (by kernel_rfl) (by simp) ?_
  refine AllReadyH.cons rfl (fun K hK => ?_) AllReadyH.nil
  go_simp
  go_at_call 70
  refine (implFilled gc oc nc capc fc (by omega) _ SC).mono ?_
  have hz0 := P.sz
  rintro e V3 ⟨v, rfl, F⟩
  obtain ⟨g7, o7, c7, rfl, s7, hg7, ot, bl, be⟩ := F
  have hq7 : g7 = gc ∨ W0.heap.size ≤ g7 := by omega
  clear hg7 hz0
  have P := P.fill ot bl (fun h => (be h.1).1.mono (Nat.le_trans hgbW P.sz)) hB4 hBW hr2 hl2
  refine hK.out _ _ (unhide KQ _ P.bel) (fun hHeld => ?_)
  clear hK K
  try simp only [Act.put, List.getElem_toArray, List.getElem_cons_succ, List.getElem_cons_zero, List.setIfInBounds_toArray, List.set_cons_zero, List.set_cons_succ]
  have A5 := ot.ar A5 (by omega)
  have hg2 : gh < V3.heap.size := Nat.lt_of_lt_of_le hg2 ot.1
  have hH := q2_ot ot hH (by omega) (by omega)
  have A7 := s7.ar
  have l7 := s7.le
  have lt7 : g7 < V3.heap.size := A7.lt
  clear ot bl be s7
  refine wpAnyH_ready (rs := [9]) (by kernel_rfl) (by simp) ?_
  refine AllReadyH.cons rfl (fun K hK => ?_) AllReadyH.nil
  go_simp
  refine hK.out _ _ (unhide KQ _ (P.alloc (.cells #[.slice (some ⟨g5, o5, none⟩) (flN nb) c5, .slice (some ⟨g7, o7, none⟩) (flN nc) c7, .slice (some ⟨gl, 0, none⟩) 16 16] 32)).bel) (fun hHeld => ?_)
  clear hK K
  try simp only [Act.put, List.getElem_toArray, List.getElem_cons_succ, List.getElem_cons_zero, List.setIfInBounds_toArray, List.set_cons_zero, List.set_cons_succ]
  have T := tx_three V3 gl g5 o5 c5 g7 o7 c7 nb nc fb fc lf HLF (by omega) (by omega) l5 l7 A5 A7 P.len 32
  have P := P.alloc (.cells #[.slice (some ⟨g5, o5, none⟩) (flN nb) c5, .slice (some ⟨g7, o7, none⟩) (flN nc) c7, .slice (some ⟨gl, 0, none⟩) 16 16] 32)
  have hH := hH.alloc (.cells #[.slice (some ⟨g5, o5, none⟩) (flN nb) c5, .slice (some ⟨g7, o7, none⟩) (flN nc) c7, .slice (some ⟨gl, 0, none⟩) 16 16] 32) hg2
  have hg2 : gh < (V3.alloc (.cells #[.slice (some ⟨g5, o5, none⟩) (flN nb) c5, .slice (some ⟨g7, o7, none⟩) (flN nc) c7, .slice (some ⟨gl, 0, none⟩) 16 16] 32)).heap.size := by rw [World.size_alloc]; omega
  generalize V3.alloc (.cells #[.slice (some ⟨g5, o5, none⟩) (flN nb) c5, .slice (some ⟨g7, o7, none⟩) (flN nc) c7, .slice (some ⟨gl, 0, none⟩) 16 16] 32) = V4 at T P hH hg2 ⊢
  generalize V3.heap.size = gs at T ⊢
  clear A5 A7
  refine wpAnyH_ready (rs := [10]) (by kernel_rfl) (by simp) ?_
  refine AllReadyH.cons rfl (fun K hK => ?_) AllReadyH.nil
  go_simp
  go_at_call 69
  refine (unhide HHO gs g5 o5 c5 g7 o7 c7 _ T).mono ?_
  rintro e V5 ⟨rfl, b9⟩
  have P := P.below b9
  refine hK.out _ _ (unhide KQ _ P.bel) (fun hHeld => ?_)
  clear hK K
  try simp only [Act.put, List.getElem_toArray, List.getElem_cons_succ, List.getElem_cons_zero, List.setIfInBounds_toArray, List.set_cons_zero, List.set_cons_succ]
  have hH := hH.keep b9 hg2
  have hg2 : gh < V5.heap.size := Nat.lt_of_lt_of_le hg2 b9.size
  clear T b9
  refine wpAnyH_ready (rs := [12]) (by kernel_rfl) (by simp) ?_
  refine AllReadyH.cons rfl (fun K hK => ?_) AllReadyH.nil
  have k0 := hH.c0
  have k1 := hH.c1
  have k2 := hH.f0
  have k3 := hH.f1
  go_simp
  have P := P.two (x := .int .u64 ((tgP key nb nc fb fc).1 : Nat)) (y := .int .u64 ((tgP key nb nc fb fc).2 : Nat)) (by omega : gh ≠ w.heap.size) (by omega) (show B ≤ gh by omega) (show gb ≤ gh by omega)
  refine hK.out _ _ (unhide KQ _ P.bel) (fun hHeld => ?_)
  clear hK K
  try simp only [Act.put, List.getElem_toArray, List.getElem_cons_succ, List.getElem_cons_zero, List.setIfInBounds_toArray, List.set_cons_zero, List.set_cons_succ]
  have hH := (hH.put0 (tgP key nb nc fb fc).1).put1 (tgP key nb nc fb fc).2
  have hg2 : gh < ((V5.setCell ⟨gh, 0, none⟩ (.int .u64 ((tgP key nb nc fb fc).1 : Nat))).setCell ⟨gh, 1, none⟩ (.int .u64 ((tgP key nb nc fb fc).2 : Nat))).heap.size := by
    simp only [World.setCell, Array.size_modify]
    exact hg2
  generalize (V5.setCell ⟨gh, 0, none⟩ (.int .u64 ((tgP key nb nc fb fc).1 : Nat))).setCell ⟨gh, 1, none⟩ (.int .u64 ((tgP key nb nc fb fc).2 : Nat)) = VF at P hH hg2 ⊢
  clear k0 k1 k2 k3
  refine wpAnyH_done (by kernel_rfl) ?_ _
  exact unhide FIN VF gh _ _ _ _ _ _ _ _ _ _ _ _ _ _ _ _ _ _ _ _ _ _ _ _ _ _ _ P hH hg2 hgh
  go_simp
  refine hK.out _ _ (unhide KQ _ (P.alloc (.cells #[.int .u64 0, .int .u64 0] 82)).bel) (fun hHeld => ?_)
  clear hK K
  try simp only [Act.put, List.getElem_toArray, List.getElem_cons_succ, List.getElem_cons_zero, List.setIfInBounds_toArray, List.set_cons_zero, List.set_cons_succ]
  have hH := q2_own W0 0 0 82
  obtain ⟨gh, hghd⟩ : ∃ g, W0.heap.size = g := ⟨_, rfl⟩
  have hgh : W0.heap.size ≤ gh := by rw [← hghd]; exact P.sz
  have P := P.alloc (.cells #[.int .u64 0, .int .u64 0] 82)
  have SB := SB.alloc (.cells #[.int .u64 0, .int .u64 0] 82)
  have SC := SC.alloc (.cells #[.int .u64 0, .int .u64 0] 82)
  have hg2 : W0.heap.size < (W0.alloc (.cells #[.int .u64 0, .int .u64 0] 82)).heap.size := by rw [World.size_alloc]; omega
  generalize W0.alloc (.cells #[.int .u64 0, .int .u64 0] 82) = V1 at hH hg2 P SB SC ⊢
  rw [hghd] at hH hg2 ⊢
  clear hghd
  refine wpAnyH_ready (rs := [5]) (by kernel_rfl) (by simp) ?_
  refine AllReadyH.cons rfl (fun K hK => ?_) AllReadyH.nil
  go_simp
  go_at_call 70
  refine (implFilled gb ob nb capb fb (by omega) _ SB).mono ?_
  have hz0 := P.sz
  rintro e V2 ⟨v, rfl, F⟩
  obtain ⟨g5, o5, c5, rfl, s5, hg5, ot, bl, be⟩ := F
  have hq5 : g5 = gb ∨ W0.heap.size ≤ g5 := by omega
  clear hg5 hz0
  have P := P.fill ot bl (fun _ => bl gb (Nat.le_refl _) (Nat.le_trans hgbW P.sz)) hB3 hBW hr1 hl1
  refine hK.out _ _ (unhide KQ _ P.bel) (fun hHeld => ?_)
  clear hK K
  try simp only [Act.put, List.getElem_toArray, List.getElem_cons_succ, List.getElem_cons_zero, List.setIfInBounds_toArray, List.set_cons_zero, List.set_cons_succ]
  have SC := sg_ot ot SC (Ne.symm hne)
  have hg2 : gh < V2.heap.size := Nat.lt_of_lt_of_le hg2 ot.1
  have hH := q2_ot ot hH (by omega) (by omega)
  have A5 := s5.ar
  have l5 := s5.le
  have lt5 : g5 < V2.heap.size := A5.lt
  clear ot bl be s5
  refine wpAnyH_ready (rs := [7]) (by kernel_rfl) (by simp) ?_
  refine AllReadyH.cons rfl (fun K hK => ?_) AllReadyH.nil
  go_simp
  go_at_call 70
  refine (implFilled gc oc nc capc fc (by omega) _ SC).mono ?_
  have hz0 := P.sz
  rintro e V3 ⟨v, rfl, F⟩
  obtain ⟨g7, o7, c7, rfl, s7, hg7, ot, bl, be⟩ := F
  have hq7 : g7 = gc ∨ W0.heap.size ≤ g7 := by omega
  clear hg7 hz0
  have P := P.fill ot bl (fun h => (be h.1).1.mono (Nat.le_trans hgbW P.sz)) hB4 hBW hr2 hl2
  refine hK.out _ _ (unhide KQ _ P.bel) (fun hHeld => ?_)
  clear hK K
  try simp only [Act.put, List.getElem_toArray, List.getElem_cons_succ, List.getElem_cons_zero, List.setIfInBounds_toArray, List.set_cons_zero, List.set_cons_succ]
  have A5 := ot.ar A5 (by omega)
  have hg2 : gh < V3.heap.size := Nat.lt_of_lt_of_le hg2 ot.1
  have hH := q2_ot ot hH (by omega) (by omega)
  have A7 := s7.ar
  have l7 := s7.le
  have lt7 : g7 < V3.heap.size := A7.lt
  clear ot bl be s7
  refine wpAnyH_ready (rs := [9]) (by kernel_rfl) (by simp) ?_
  refine AllReadyH.cons rfl (fun K hK => ?_) AllReadyH.nil
  go_simp
  refine hK.out _ _ (unhide KQ _ (P.alloc (.cells #[.slice (some ⟨g5, o5, none⟩) (flN nb) c5, .slice (some ⟨g7, o7, none⟩) (flN nc) c7, .slice (some ⟨gl, 0, none⟩) 16 16] 32)).bel) (fun hHeld => ?_)
  clear hK K
  try simp only [Act.put, List.getElem_toArray, List.getElem_cons_succ, List.getElem_cons_zero, List.setIfInBounds_toArray, List.set_cons_zero, List.set_cons_succ]
  have T := tx_three V3 gl g5 o5 c5 g7 o7 c7 nb nc fb fc lf HLF (by omega) (by omega) l5 l7 A5 A7 P.len 32
  have P := P.alloc (.cells #[.slice (some ⟨g5, o5, none⟩) (flN nb) c5, .slice (some ⟨g7, o7, none⟩) (flN nc) c7, .slice (some ⟨gl, 0, none⟩) 16 16] 32)
  have hH := hH.alloc (.cells #[.slice (some ⟨g5, o5, none⟩) (flN nb) c5, .slice (some ⟨g7, o7, none⟩) (flN nc) c7, .slice (some ⟨gl, 0, none⟩) 16 16] 32) hg2
  have hg2 : gh < (V3.alloc (.cells #[.slice (some ⟨g5, o5, none⟩) (flN nb) c5, .slice (some ⟨g7, o7, none⟩) (flN nc) c7, .slice (some ⟨gl, 0, none⟩) 16 16] 32)).heap.size := by rw [World.size_alloc]; omega
  generalize V3.alloc (.cells #[.slice (some ⟨g5, o5, none⟩) (flN nb) c5, .slice (some ⟨g7, o7, none⟩) (flN nc) c7, .slice (some ⟨gl, 0, none⟩) 16 16] 32) = V4 at T P hH hg2 ⊢
  generalize V3.heap.size = gs at T ⊢
  clear A5 A7
  refine wpAnyH_ready (rs := [10]) (by kernel_rfl) (by simp) ?_
  refine AllReadyH.cons rfl (fun K hK => ?_) AllReadyH.nil
  go_simp
  go_at_call 69
  refine (unhide HHO gs g5 o5 c5 g7 o7 c7 _ T).mono ?_
  rintro e V5 ⟨rfl, b9⟩
  have P := P.below b9
  refine hK.out _ _ (unhide KQ _ P.bel) (fun hHeld => ?_)
  clear hK K
  try simp only [Act.put, List.getElem_toArray, List.getElem_cons_succ, List.getElem_cons_zero, List.setIfInBounds_toArray, List.set_cons_zero, List.set_cons_succ]
  have hH := hH.keep b9 hg2
  have hg2 : gh < V5.heap.size := Nat.lt_of_lt_of_le hg2 b9.size
  clear T b9
  refine wpAnyH_ready (rs := [12]) (by kernel_rfl) (by simp) ?_
  refine AllReadyH.cons rfl (fun K hK => ?_) AllReadyH.nil
  have k0 := hH.c0
  have k1 := hH.c1
  have k2 := hH.f0
  have k3 := hH.f1
  go_simp
  have P := P.two (x := .int .u64 ((tgP key nb nc fb fc).1 : Nat)) (y := .int .u64 ((tgP key nb nc fb fc).2 : Nat)) (by omega : gh ≠ w.heap.size) (by omega) (show B ≤ gh by omega) (show gb ≤ gh by omega)
  refine hK.out _ _ (unhide KQ _ P.bel) (fun hHeld => ?_)
  clear hK K
  try simp only [Act.put, List.getElem_toArray, List.getElem_cons_succ, List.getElem_cons_zero, List.setIfInBounds_toArray, List.set_cons_zero, List.set_cons_succ]
  have hH := (hH.put0 (tgP key nb nc fb fc).1).put1 (tgP key nb nc fb fc).2
  have hg2 : gh < ((V5.setCell ⟨gh, 0, none⟩ (.int .u64 ((tgP key nb nc fb fc).1 : Nat))).setCell ⟨gh, 1, none⟩ (.int .u64 ((tgP key nb nc fb fc).2 : Nat))).heap.size := by
    simp only [World.setCell, Array.size_modify]
    exact hg2
  generalize (V5.setCell ⟨gh, 0, none⟩ (.int .u64 ((tgP key nb nc fb fc).1 : Nat))).setCell ⟨gh, 1, none⟩ (.int .u64 ((tgP key nb nc fb fc).2 : Nat)) = VF at P hH hg2 ⊢
  clear k0 k1 k2 k3
  refine wpAnyH_done (by kernel_rfl) ?_ _
  exact unhide FIN VF gh _ _ _ _ _ _ _ _ _ _ _ _ _ _ _ _ _ _ _ _ _ _ _ _ _ _ _ P hH hg2 hgh
end Go.Proofs.Ytkpodgeinanceaa
