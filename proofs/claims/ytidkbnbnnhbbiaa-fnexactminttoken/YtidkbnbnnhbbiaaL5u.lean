/-
  Contracts: the model's tag.
-/
import Derived.Test.YtidkbnbnnhbbiaaL5k
import Derived.Test.YtidkbnbnnhbbiaaE5u
namespace Go.Proofs.Ytidkbnbnnhbbiaa
open Go.ChangeShapes Go.WideShapes Go.ChangeAt Go.RowKit
set_option linter.unusedVariables false

theorem nbF_congr (f g : Nat → Nat) : ∀ k, (∀ i, i < k → f i = g i) → nbF f k = nbF g k
  | 0, _ => rfl
  | k + 1, h => by rw [nbF, nbF, nbF_congr f g k (fun i hi => h i (by omega)), h k (by omega)]
theorem ghF_congr (kh kl : Nat) (f g : Nat → Nat) : ∀ j, (∀ i, i < 16 * j → f i = g i) → ghF kh kl f j = ghF kh kl g j
  | 0, _ => rfl
  | j + 1, h => by
    rw [ghF, ghF, ghF_congr kh kl f g j (fun i hi => h i (by omega))]
    unfold bkH bkL
    rw [nbF_congr (fun i => f (16 * j + i)) (fun i => g (16 * j + i)) 8 (fun i hi => h _ (by omega)), nbF_congr (fun i => f (16 * j + (8 + i))) (fun i => g (16 * j + (8 + i))) 8 (fun i hi => h _ (by omega))]
theorem hk_hi (key : ByteArray) : hiW (bq 16 (hkF key)) = hkH key := by
  rw [← nbF_hi _ (bq_size _ _)]
  exact nbF_congr _ _ 8 (fun i hi => at8_bq 16 _ i (by omega) (hkF_lt key i))
theorem hk_lo (key : ByteArray) : lo5W (bq 16 (hkF key)) = hkL key := by
  rw [← nbF_lo _ (bq_size _ _)]
  exact nbF_congr _ _ 8 (fun i hi => at8_bq 16 _ (8 + i) (by omega) (hkF_lt key _))
theorem flF_at8 (s : ByteArray) (i : Nat) : flF s.size (at8 s) i = at8 s i := by
  unfold flF
  by_cases e : i < s.size
  · rw [if_pos e]
  · rw [if_neg e, at8_out s i (by omega)]
/-- what is hashed for a tag, as a text -/
def tgT (beside sealed : ByteArray) : ByteArray := bq (flN beside.size) (at8 beside) ++ bq (flN sealed.size) (at8 sealed) ++ bq 8 (fun i => byN (8 * beside.size) (7 - i)) ++ bq 8 (fun i => byN (8 * sealed.size) (7 - i))
theorem tgT_size (beside sealed : ByteArray) : (tgT beside sealed).size = 16 * (flN beside.size / 16 + flN sealed.size / 16 + 1) := by
  have h1 := (flN_le beside.size).2.2
  have h2 := (flN_le sealed.size).2.2
  unfold tgT
  rw [ByteArray.size_append, ByteArray.size_append, ByteArray.size_append, bq_size, bq_size, bq_size, bq_size]
  omega
theorem tgT_at (beside sealed : ByteArray) (i : Nat) (hi : i < 16 * (flN beside.size / 16 + flN sealed.size / 16 + 1)) : at8 (tgT beside sealed) i = tgF beside.size sealed.size (at8 beside) (at8 sealed) i := by
  have h1 := (flN_le beside.size).2.2
  have h2 := (flN_le sealed.size).2.2
  unfold tgT tgF
  rw [at8_append, at8_append, at8_append, ByteArray.size_append, ByteArray.size_append, bq_size, bq_size, bq_size]
  by_cases e1 : i < flN beside.size
  · rw [if_pos (by omega), if_pos (by omega), if_pos e1, if_pos e1, flF_at8, at8_bq _ _ i e1 (at8_lt _ _)]
  · by_cases e2 : i < flN beside.size + flN sealed.size
    · rw [if_pos (by omega), if_pos e2, if_neg e1, if_neg e1, if_pos e2, flF_at8, at8_bq _ _ _ (by omega) (at8_lt _ _)]
    · simp only [if_neg e1, if_neg e2]
      unfold blF
      by_cases e3 : i < flN beside.size + flN sealed.size + 8
      · rw [if_pos e3, if_pos (by omega), at8_bq 8 (fun i => byN (8 * beside.size) (7 - i)) _ (by omega) (byN_lt _ _)]
      · rw [if_neg e3, if_neg (by omega), at8_bq 8 (fun i => byN (8 * sealed.size) (7 - i)) _ (by omega) (byN_lt _ _)]
        congr 1
        omega
theorem specFix8' (n : Nat) (hn : n ≤ 100000) (w : World) :
    Calls Try.prog 24 #[.int .i64 (8 * (n : Int)), .int .i64 8] w fun e w' => e = .returned (.string (bq 8 (fun i => byN (8 * n) (7 - i)))) ∧ Below w.heap.size w w' := by
  have := specFix8 (8 * n) (by omega) w
  rw [wraps_i64 _ (by omega) (by omega), show ((8 * n : Nat) : Int) = 8 * (n : Int) by omega] at this
  exact this
/-- the nonce and the number 1 -/
def n1W (nonce : ByteArray) : ByteArray := nonce ++ ⟨#[0, 0, 0, 1]⟩
theorem n1W_size (nonce : ByteArray) (hn : nonce.size = 12) : (n1W nonce).size = 16 := by
  unfold n1W
  rw [ByteArray.size_append, hn]
  rfl
theorem n1W_at (nonce : ByteArray) (hn : nonce.size = 12) (i : Nat) (hi : i < 16) : at8 (n1W nonce) i = plB (at8 nonce) 1 i := by
  unfold n1W plB
  rw [at8_append, hn]
  by_cases e : i < 12
  · rw [if_pos e, if_pos e]
  · rw [if_neg e, if_neg e]
    have h4 : nb4 (at8 nonce) = 0 := by
      unfold nb4
      rw [at8_out nonce 12 (by omega), at8_out nonce 13 (by omega), at8_out nonce 14 (by omega), at8_out nonce 15 (by omega)]
    rw [h4]
    have h : i = 12 ∨ i = 13 ∨ i = 14 ∨ i = 15 := by omega
    rcases h with rfl | rfl | rfl | rfl <;> rfl
set_option maxRecDepth 100000 in
set_option maxHeartbeats 1000000 in
theorem specTag (kb gk ok ck gt : Nat) (key nonce beside sealed : ByteArray) (hn : nonce.size = 12) (hb : beside.size ≤ 1500) (hs : sealed.size ≤ 1500) (w : World) (hM : SM w kb gk ok ck gt key) :
    Calls Try.prog 33 #[.pointer (some ⟨kb, 0, none⟩), .string nonce, .string beside, .string sealed] w fun e w' => e = .returned (.string (bq 16 (tgB key nonce beside.size sealed.size (at8 beside) (at8 sealed)))) ∧ Below w.heap.size w w' := by
  have H1 := hide (fun W => specFull beside (by omega) W)
  have H2 := hide (fun W => specFull sealed (by omega) W)
  have H3 := hide (fun W => specFix8' beside.size (by omega) W)
  have H4 := hide (fun W => specFix8' sealed.size (by omega) W)
  have hz1 := flN_le beside.size
  have hz2 := flN_le sealed.size
  have ad1 := fun W : World => run_string_add_sum (P := Try.prog) (w := W) (bq (flN beside.size) (at8 beside)) (bq (flN sealed.size) (at8 sealed)) (by rw [bq_size, bq_size]; omega)
  have ad2 := fun W : World => run_string_add_sum (P := Try.prog) (w := W) (bq (flN beside.size) (at8 beside) ++ bq (flN sealed.size) (at8 sealed)) (bq 8 (fun i => byN (8 * beside.size) (7 - i))) (by rw [ByteArray.size_append, bq_size, bq_size, bq_size]; omega)
  have ad3 := fun W : World => run_string_add_sum (P := Try.prog) (w := W) (bq (flN beside.size) (at8 beside) ++ bq (flN sealed.size) (at8 sealed) ++ bq 8 (fun i => byN (8 * beside.size) (7 - i))) (bq 8 (fun i => byN (8 * sealed.size) (7 - i))) (by rw [ByteArray.size_append, ByteArray.size_append, bq_size, bq_size, bq_size, bq_size]; omega)
  have HT : Hid (bq (flN beside.size) (at8 beside) ++ bq (flN sealed.size) (at8 sealed) ++ bq 8 (fun i => byN (8 * beside.size) (7 - i)) ++ bq 8 (fun i => byN (8 * sealed.size) (7 - i)) = tgT beside sealed) := rfl
  generalize bq (flN beside.size) (at8 beside) ++ bq (flN sealed.size) (at8 sealed) ++ bq 8 (fun i => byN (8 * beside.size) (7 - i)) ++ bq 8 (fun i => byN (8 * sealed.size) (7 - i)) = T at *
  generalize bq (flN beside.size) (at8 beside) ++ bq (flN sealed.size) (at8 sealed) ++ bq 8 (fun i => byN (8 * beside.size) (7 - i)) = T3 at *
  generalize bq (flN beside.size) (at8 beside) ++ bq (flN sealed.size) (at8 sealed) = T2 at *
  generalize bq (flN beside.size) (at8 beside) = t1 at *
  generalize bq (flN sealed.size) (at8 sealed) = t2 at *
  generalize bq 8 (fun i => byN (8 * beside.size) (7 - i)) = t3 at *
  generalize bq 8 (fun i => byN (8 * sealed.size) (7 - i)) = t4 at *
  have HM := hide hM
  obtain ⟨n, hnn⟩ : ∃ n : Nat, n = flN beside.size / 16 + flN sealed.size / 16 + 1 := ⟨_, rfl⟩
  have hTs : T.size = 16 * n := by rw [unhide HT, hnn]; exact tgT_size beside sealed
  have hghe : ghF (hkH key) (hkL key) (at8 T) n = tgP key beside.size sealed.size (at8 beside) (at8 sealed) := by
    unfold tgP
    rw [hnn]
    exact ghF_congr _ _ _ _ _ (fun i hi => by rw [unhide HT]; exact tgT_at beside sealed i hi)
  have H5 := fun W => specGhash (bq 16 (hkF key)) T n (bq_size _ _) hTs (by omega) W
  rw [hk_hi, hk_lo, hghe] at H5
  have H5 := hide H5
  have hpl := tgP_lt key beside.size sealed.size (at8 beside) (at8 sealed)
  have H6 := hide (fun W => specTold _ _ hpl.1 hpl.2 W)
  clear hM hz1 hz2 hTs hghe hnn
  go_enter Try.func33, Try.ntmps33
  go_wp2_with (first
    | (go_at_call 45; with_reducible refine (unhide H1 _).mono ?_; rintro e w1 ⟨rfl, h9⟩; rw [h9]; clear h9 w1)
    | (go_at_call 45; with_reducible refine (unhide H2 _).mono ?_; rintro e w1 ⟨rfl, h9⟩; rw [h9]; clear h9 w1)
    | (go_at_call 24; with_reducible refine (unhide H3 _).mono ?_; rintro e w3 ⟨rfl, b3⟩; have B3 := hide b3; clear b3)
    | (go_at_call 24; with_reducible refine (unhide H4 _).mono ?_; rintro e w4 ⟨rfl, b4⟩; have M4 := (unhide HM).keep ((unhide B3).trans (b4.mono (unhide B3).size)); have c2 := M4.c2; have HM4 := hide M4; have B4 := hide ((unhide B3).trans (b4.mono (unhide B3).size)); clear b4 M4)
    | (go_at_call 47; with_reducible refine (unhide H5 _).mono ?_; rintro e w5 ⟨rfl, b5⟩; have B5 := hide b5; clear b5)
    | (go_at_call 46; with_reducible refine (unhide H6 _).mono ?_; rintro e w6 ⟨rfl, b6⟩; have B6 := hide b6; clear b6))
  have B7 := hide ((unhide B4).trans (((unhide B5).trans ((unhide B6).mono (unhide B5).size)).mono (unhide B4).size))
  have M7 := ((unhide HM4).keep (unhide B5)).keep (unhide B6)
  clear c2 HM4 B3 B4 B5 B6 H1 H2 H3 H4 H5 H6 ad1 ad2 ad3 HM
  have hys := tlW_size (tgP key beside.size sealed.size (at8 beside) (at8 sealed)).1 (tgP key beside.size sealed.size (at8 beside) (at8 sealed)).2
  have hyb := tlW_bq (tgP key beside.size sealed.size (at8 beside) (at8 sealed)).1 (tgP key beside.size sealed.size (at8 beside) (at8 sealed)).2
  have HY : Hid (∀ i, i < 16 → at8 (tlW (tgP key beside.size sealed.size (at8 beside) (at8 sealed)).1 (tgP key beside.size sealed.size (at8 beside) (at8 sealed)).2) i = blF (tgP key beside.size sealed.size (at8 beside) (at8 sealed)).1 (tgP key beside.size sealed.size (at8 beside) (at8 sealed)).2 i) := fun i hi => by rw [hyb]; exact at8_bq 16 _ i hi (blF_lt _ _ _)
  have hn1 := n1W_size nonce hn
  have HW0 : Hid (∀ V, SM V kb gk ok ck gt key → Calls Try.prog 31 #[.slice (some ⟨gk, ok, none⟩) 176 ck, .slice (some ⟨gt, 0, none⟩) 256 256, .string (n1W nonce)] V fun e w' => e = .returned (.string (bq 16 (fw (rk (at8 key)) (at8 (n1W nonce)) 10))) ∧ Below V.heap.size V w') := fun V h => specWith gk ok ck gt 256 (at8 key) (n1W nonce) (at8_lt key) hn1 h.le V h.ks h.tb
  have hzs := bq_size 16 (fw (rk (at8 key)) (at8 (n1W nonce)) 10)
  have HZ : Hid (∀ i, i < 16 → at8 (bq 16 (fw (rk (at8 key)) (at8 (n1W nonce)) 10)) i = fw (rk (at8 key)) (plB (at8 nonce) 1) 10 i) := fun i hi => by
    rw [at8_bq 16 _ i hi (fw_lt (rk (at8 key)) _ (fun n i => rk_lt (at8 key) (at8_lt key) n i) (at8_lt _) 10 _)]
    exact fw_congr _ _ _ (fun j hj => n1W_at nonce hn j hj) 10 i hi
  have HE : Hid (bq 16 (fun i => at8 (tlW (tgP key beside.size sealed.size (at8 beside) (at8 sealed)).1 (tgP key beside.size sealed.size (at8 beside) (at8 sealed)).2) i ^^^ at8 (bq 16 (fw (rk (at8 key)) (at8 (n1W nonce)) 10)) i) = bq 16 (tgB key nonce beside.size sealed.size (at8 beside) (at8 sealed))) := bq_congr (fun i hi => by rw [unhide HY i hi, unhide HZ i hi]; rfl)
  have ad := fun W : World => run_string_add_sum (P := Try.prog) (w := W) nonce ⟨#[0, 0, 0, 1]⟩ (by rw [hn]; show 12 + 4 ≤ _; omega)
  have HN1 : Hid (nonce ++ ⟨#[0, 0, 0, 1]⟩ = n1W nonce) := rfl
  rw [unhide HN1] at ad
  generalize n1W nonce = nw at *
  generalize bq 16 (fw (rk (at8 key)) (at8 nw) 10) = z at *
  generalize tlW (tgP key beside.size sealed.size (at8 beside) (at8 sealed)).1 (tgP key beside.size sealed.size (at8 beside) (at8 sealed)).2 = y at *
  clear hyb hn1 hpl
  have MD : SM w6.drew kb gk ok ck gt key := ⟨M7.c0, M7.c1, M7.c2, M7.lt, M7.le, M7.ks.drew, M7.tb.drew⟩
  have B8 := hide (unhide B7).drew
  have KS : Hid (∀ V, Below w6.drew.heap.size w6.drew V → V.cell? ⟨kb, 0, none⟩ = some (.slice (some ⟨gk, ok, none⟩) 176 ck) ∧ V.cell? ⟨kb, 1, none⟩ = some (.slice (some ⟨gt, 0, none⟩) 256 256)) := fun V hV => ⟨(MD.keep hV).c0, (MD.keep hV).c1⟩
  have HW := hide (fun V (hV : Below w6.drew.heap.size w6.drew V) => unhide HW0 V (MD.keep hV))
  have BB : Below w6.drew.heap.size w6.drew w6.drew := Below.refl _ _
  clear HW0 M7 MD B7 HY HZ
  rename_i Q9 K9 hK9
  have FIN : Hid (∀ (VF : World) (u0 u1 u2 u3 u4 u5 u6 u7 u9 u10 u11 u12 u13 u14 u15 u16 u17 u18 u19 u20 u21 u22 u23 u24 u25 u26 u27 u28 u29 u30 u31 u32 u33 u34 u35 u36 u37 u38 u39 u40 u41 u42 u43 u44 u45 u46 u47 u48 : Value), Below w6.drew.heap.size w6.drew VF → Exit.then K9 Q9 .normal { tmps := #[u0, u1, u2, u3, u4, u5, u6, u7, .string (bq 16 (fun i => at8 y i ^^^ at8 z i)), u9, u10, u11, u12, u13, u14, u15, u16, u17, u18, u19, u20, u21, u22, u23, u24, u25, u26, u27, u28, u29, u30, u31, u32, u33, u34, u35, u36, u37, u38, u39, u40, u41, u42, u43, u44, u45, u46, u47, u48], defers := [] } VF) := by
    intro VF u0 u1 u2 u3 u4 u5 u6 u7 u9 u10 u11 u12 u13 u14 u15 u16 u17 u18 u19 u20 u21 u22 u23 u24 u25 u26 u27 u28 u29 u30 u31 u32 u33 u34 u35 u36 u37 u38 u39 u40 u41 u42 u43 u44 u45 u46 u47 u48 hV
    have HV := hide ((unhide B8).trans (hV.mono (unhide B8).size))
    clear hV
    refine hK9 _ _ ?_
    go_wp2
    go_ret
    exact ⟨by rw [← unhide HE]; rfl, unhide HV⟩
  refine wp_region_held_drew (S := fun V => V.cell? ⟨kb, 0, none⟩ = some (.slice (some ⟨gk, ok, none⟩) 176 ck) ∧ V.cell? ⟨kb, 1, none⟩ = some (.slice (some ⟨gt, 0, none⟩) 256 256)) (by kernel_rfl) (unhide KS _ BB) (fun hHeld => ?_)
  generalize w6.drew = V0 at *
  refine wpAnyH_take (i := 0) (v := ?_) rfl (by kernel_rfl) (by kernel_rfl) (by kernel_rfl) (fun _ _ _ h => h) (Or.inl ⟨by rfl, ?_⟩) hHeld ?_
  rotate_left
  · intro V hSw; go_simp; rfl
  simp only [Act.put, List.getElem_toArray, List.getElem_cons_zero, List.setIfInBounds_toArray, List.set_cons_zero, List.set_cons_succ]
  refine wpAnyH_take (i := 2) (v := ?_) rfl (by kernel_rfl) (by kernel_rfl) (by kernel_rfl) (fun _ _ _ h => h) (Or.inl ⟨by rfl, ?_⟩) hHeld ?_
  rotate_left
  · intro V hSw; go_simp; rfl
  simp only [Act.put, List.getElem_toArray, List.getElem_cons_succ, List.getElem_cons_zero, List.setIfInBounds_toArray, List.set_cons_zero, List.set_cons_succ]
  refine wpAnyH_take (i := 3) (v := ?_) rfl (by kernel_rfl) (by kernel_rfl) (by kernel_rfl) (fun _ _ _ h => h) (Or.inl ⟨by rfl, ?_⟩) hHeld ?_
  rotate_left
  · intro V hSw; go_simp; rfl
  simp only [Act.put, List.getElem_toArray, List.getElem_cons_succ, List.getElem_cons_zero, List.setIfInBounds_toArray, List.set_cons_zero, List.set_cons_succ]
  refine wpAnyH_take (i := 4) (v := ?_) rfl (by kernel_rfl) (by kernel_rfl) (by kernel_rfl) (fun _ _ _ h => h) (Or.inl ⟨by rfl, ?_⟩) hHeld ?_
  rotate_left
  · intro V hSw; go_simp; rfl
  simp only [Act.put, List.getElem_toArray, List.getElem_cons_succ, List.getElem_cons_zero, List.setIfInBounds_toArray, List.set_cons_zero, List.set_cons_succ]
  refine wpAnyH_take (i := 5) (v := ?_) rfl (by kernel_rfl) (by kernel_rfl) (by kernel_rfl) (fun _ _ _ h => h) (Or.inl ⟨by rfl, ?_⟩) hHeld ?_
  rotate_left
  · intro V hSw; go_simp; rfl
  simp only [Act.put, List.getElem_toArray, List.getElem_cons_succ, List.getElem_cons_zero, List.setIfInBounds_toArray, List.set_cons_zero, List.set_cons_succ]
  refine wpAnyH_take (i := 6) (v := ?_) rfl (by kernel_rfl) (by kernel_rfl) (by kernel_rfl) (fun _ _ _ h => h) (Or.inl ⟨by rfl, ?_⟩) hHeld ?_
  rotate_left
  · intro V hSw; go_simp; rfl
  simp only [Act.put, List.getElem_toArray, List.getElem_cons_succ, List.getElem_cons_zero, List.setIfInBounds_toArray, List.set_cons_zero, List.set_cons_succ]
  refine wpAnyH_take (i := 7) (v := ?_) rfl (by kernel_rfl) (by kernel_rfl) (by kernel_rfl) (fun _ _ _ h => h) (Or.inl ⟨by rfl, ?_⟩) hHeld ?_
  rotate_left
  · intro V hSw; go_simp; rfl
  simp only [Act.put, List.getElem_toArray, List.getElem_cons_succ, List.getElem_cons_zero, List.setIfInBounds_toArray, List.set_cons_zero, List.set_cons_succ]
  refine wpAnyH_take (i := 8) (v := ?_) rfl (by kernel_rfl) (by kernel_rfl) (by kernel_rfl) (fun _ _ _ h => h) (Or.inl ⟨by rfl, ?_⟩) hHeld ?_
  rotate_left
  · intro V hSw; go_simp; rfl
  simp only [Act.put, List.getElem_toArray, List.getElem_cons_succ, List.getElem_cons_zero, List.setIfInBounds_toArray, List.set_cons_zero, List.set_cons_succ]
  refine wpAnyH_take (i := 9) (v := ?_) rfl (by kernel_rfl) (by kernel_rfl) (by kernel_rfl) (fun _ _ _ h => h) (Or.inl ⟨by rfl, ?_⟩) hHeld ?_
  rotate_left
  · intro V hSw; go_simp; rfl
  simp only [Act.put, List.getElem_toArray, List.getElem_cons_succ, List.getElem_cons_zero, List.setIfInBounds_toArray, List.set_cons_zero, List.set_cons_succ]
  refine wpAnyH_take (i := 10) (v := ?_) rfl (by kernel_rfl) (by kernel_rfl) (by kernel_rfl) (fun _ _ _ h => h) (Or.inl ⟨by rfl, ?_⟩) hHeld ?_
  rotate_left
  · intro V hSw; go_simp; rfl
  simp only [Act.put, List.getElem_toArray, List.getElem_cons_succ, List.getElem_cons_zero, List.setIfInBounds_toArray, List.set_cons_zero, List.set_cons_succ]
  refine wpAnyH_take (i := 11) (v := ?_) rfl (by kernel_rfl) (by kernel_rfl) (by kernel_rfl) (fun _ _ _ h => h) (Or.inl ⟨by rfl, ?_⟩) hHeld ?_
  rotate_left
  · intro V hSw; go_simp; rfl
  simp only [Act.put, List.getElem_toArray, List.getElem_cons_succ, List.getElem_cons_zero, List.setIfInBounds_toArray, List.set_cons_zero, List.set_cons_succ]
  refine wpAnyH_ready (rs := [1, 12]) (by kernel_rfl) (by simp) ?_
  refine AllReadyH.cons rfl (fun K hK => ?_) (AllReadyH.cons rfl (fun K hK => ?_) AllReadyH.nil)
  go_simp
  obtain ⟨cap1, X1, hcv, hbW, hcW, hsz⟩ := conv_ar V0 y
  rw [hcv, hys]
  rw [hys] at hcW
  go_simp
  have BB := BB.trans (hbW.mono BB.size)
  refine hK.out _ _ (unhide KS _ BB) (fun hHeld => ?_)
  clear hK K
  try simp only [Act.put, List.getElem_toArray, List.getElem_cons_succ, List.getElem_cons_zero, List.setIfInBounds_toArray, List.set_cons_zero, List.set_cons_succ]
  have A1 := hcW
  clear hcv hbW hcW hsz
  generalize V0.heap.size = g1 at A1 ⊢
  refine wpAnyH_ready (rs := [12]) (by kernel_rfl) (by simp) ?_
  refine AllReadyH.cons rfl (fun K hK => ?_) AllReadyH.nil
  go_simp
  go_at_call 31
  refine (unhide HW _ BB).mono ?_
  rintro e X2 ⟨rfl, b9⟩
  have BB := BB.trans (b9.mono BB.size)
  refine hK.out _ _ (unhide KS _ BB) (fun hHeld => ?_)
  clear hK K
  try simp only [Act.put, List.getElem_toArray, List.getElem_cons_succ, List.getElem_cons_zero, List.setIfInBounds_toArray, List.set_cons_zero, List.set_cons_succ]
  have A1 := A1.below b9 A1.lt
  clear b9
  refine wpAnyH_ready (rs := [13]) (by kernel_rfl) (by simp) ?_
  refine AllReadyH.cons rfl (fun K hK => ?_) AllReadyH.nil
  go_simp
  obtain ⟨cap13, X3, hcv, hbW, hcW, hsz⟩ := conv_ar X2 z
  rw [hcv, hzs]
  rw [hzs] at hcW
  go_simp
  have BB := BB.trans (hbW.mono BB.size)
  refine hK.out _ _ (unhide KS _ BB) (fun hHeld => ?_)
  clear hK K
  try simp only [Act.put, List.getElem_toArray, List.getElem_cons_succ, List.getElem_cons_zero, List.setIfInBounds_toArray, List.set_cons_zero, List.set_cons_succ]
  have A1 := A1.below hbW A1.lt
  have A13 := hcW
  clear hcv hbW hcW hsz
  generalize X2.heap.size = g13 at A13 ⊢
  refine wpAnyH_ready (rs := [14]) (by kernel_rfl) (by simp) ?_
  refine AllReadyH.cons rfl (fun K hK => ?_) AllReadyH.nil
  go_simp
  go_at_call 43
  refine (specXor _ _ _ _ _ _ (at8 y) (at8 z) (at8_lt y) (at8_lt z) _ A1 A13).mono ?_
  rintro e X4 ⟨g14, hg14, rfl, a14, b9⟩
  have BB := BB.trans (b9.mono BB.size)
  refine hK.out _ _ (unhide KS _ BB) (fun hHeld => ?_)
  clear hK K
  try simp only [Act.put, List.getElem_toArray, List.getElem_cons_succ, List.getElem_cons_zero, List.setIfInBounds_toArray, List.set_cons_zero, List.set_cons_succ]
  have hst := ar_string a14 (fun i _ => xor_lt _ _ (at8_lt y i) (at8_lt z i)) 16
  clear b9 A1 A13 a14
  refine wpAnyH_ready (rs := [15]) (by kernel_rfl) (by simp) ?_
  refine AllReadyH.cons rfl (fun K hK => ?_) AllReadyH.nil
  go_simp
  refine hK.out _ _ (hHeld) (fun hHeld => ?_)
  clear hK K
  try simp only [Act.put, List.getElem_toArray, List.getElem_cons_succ, List.getElem_cons_zero, List.setIfInBounds_toArray, List.set_cons_zero, List.set_cons_succ]
  refine wpAnyH_ready (rs := [16]) (by kernel_rfl) (by simp) ?_
  refine AllReadyH.cons rfl (fun K hK => ?_) AllReadyH.nil
  go_simp
  refine hK.out _ _ (hHeld) (fun hHeld => ?_)
  clear hK K
  try simp only [Act.put, List.getElem_toArray, List.getElem_cons_succ, List.getElem_cons_zero, List.setIfInBounds_toArray, List.set_cons_zero, List.set_cons_succ]
  refine wpAnyH_done (by kernel_rfl) ?_ _
  exact unhide FIN X4 _ _ _ _ _ _ _ _ _ _ _ _ _ _ _ _ _ _ _ _ _ _ _ _ _ _ _ _ _ _ _ _ _ _ _ _ _ _ _ _ _ _ _ _ _ _ _ _ BB
  go_simp
  go_at_call 31
  refine (unhide HW _ BB).mono ?_
  rintro e X1 ⟨rfl, b9⟩
  have BB := BB.trans (b9.mono BB.size)
  refine hK.out _ _ (unhide KS _ BB) (fun hHeld => ?_)
  clear hK K
  try simp only [Act.put, List.getElem_toArray, List.getElem_cons_succ, List.getElem_cons_zero, List.setIfInBounds_toArray, List.set_cons_zero, List.set_cons_succ]
  clear b9
  refine wpAnyH_ready (rs := [1, 13]) (by kernel_rfl) (by simp) ?_
  refine AllReadyH.cons rfl (fun K hK => ?_) (AllReadyH.cons rfl (fun K hK => ?_) AllReadyH.nil)
  go_simp
  obtain ⟨cap1, X2, hcv, hbW, hcW, hsz⟩ := conv_ar X1 y
  rw [hcv, hys]
  rw [hys] at hcW
  go_simp
  have BB := BB.trans (hbW.mono BB.size)
  refine hK.out _ _ (unhide KS _ BB) (fun hHeld => ?_)
  clear hK K
  try simp only [Act.put, List.getElem_toArray, List.getElem_cons_succ, List.getElem_cons_zero, List.setIfInBounds_toArray, List.set_cons_zero, List.set_cons_succ]
  have A1 := hcW
  clear hcv hbW hcW hsz
  generalize X1.heap.size = g1 at A1 ⊢
  refine wpAnyH_ready (rs := [13]) (by kernel_rfl) (by simp) ?_
  refine AllReadyH.cons rfl (fun K hK => ?_) AllReadyH.nil
  go_simp
  obtain ⟨cap13, X3, hcv, hbW, hcW, hsz⟩ := conv_ar X2 z
  rw [hcv, hzs]
  rw [hzs] at hcW
  go_simp
  have BB := BB.trans (hbW.mono BB.size)
  refine hK.out _ _ (unhide KS _ BB) (fun hHeld => ?_)
  clear hK K
  try simp only [Act.put, List.getElem_toArray, List.getElem_cons_succ, List.getElem_cons_zero, List.setIfInBounds_toArray, List.set_cons_zero, List.set_cons_succ]
  have A1 := A1.below hbW A1.lt
  have A13 := hcW
  clear hcv hbW hcW hsz
  generalize X2.heap.size = g13 at A13 ⊢
  refine wpAnyH_ready (rs := [14]) (by kernel_rfl) (by simp) ?_
  refine AllReadyH.cons rfl (fun K hK => ?_) AllReadyH.nil
  go_simp
  go_at_call 43
  refine (specXor _ _ _ _ _ _ (at8 y) (at8 z) (at8_lt y) (at8_lt z) _ A1 A13).mono ?_
  rintro e X4 ⟨g14, hg14, rfl, a14, b9⟩
  have BB := BB.trans (b9.mono BB.size)
  refine hK.out _ _ (unhide KS _ BB) (fun hHeld => ?_)
  clear hK K
  try simp only [Act.put, List.getElem_toArray, List.getElem_cons_succ, List.getElem_cons_zero, List.setIfInBounds_toArray, List.set_cons_zero, List.set_cons_succ]
  have hst := ar_string a14 (fun i _ => xor_lt _ _ (at8_lt y i) (at8_lt z i)) 16
  clear b9 A1 A13 a14
  refine wpAnyH_ready (rs := [15]) (by kernel_rfl) (by simp) ?_
  refine AllReadyH.cons rfl (fun K hK => ?_) AllReadyH.nil
  go_simp
  refine hK.out _ _ (hHeld) (fun hHeld => ?_)
  clear hK K
  try simp only [Act.put, List.getElem_toArray, List.getElem_cons_succ, List.getElem_cons_zero, List.setIfInBounds_toArray, List.set_cons_zero, List.set_cons_succ]
  refine wpAnyH_ready (rs := [16]) (by kernel_rfl) (by simp) ?_
  refine AllReadyH.cons rfl (fun K hK => ?_) AllReadyH.nil
  go_simp
  refine hK.out _ _ (hHeld) (fun hHeld => ?_)
  clear hK K
  try simp only [Act.put, List.getElem_toArray, List.getElem_cons_succ, List.getElem_cons_zero, List.setIfInBounds_toArray, List.set_cons_zero, List.set_cons_succ]
  refine wpAnyH_done (by kernel_rfl) ?_ _
  exact unhide FIN X4 _ _ _ _ _ _ _ _ _ _ _ _ _ _ _ _ _ _ _ _ _ _ _ _ _ _ _ _ _ _ _ _ _ _ _ _ _ _ _ _ _ _ _ _ _ _ _ _ BB
  go_simp
  obtain ⟨cap13, X2, hcv, hbW, hcW, hsz⟩ := conv_ar X1 z
  rw [hcv, hzs]
  rw [hzs] at hcW
  go_simp
  have BB := BB.trans (hbW.mono BB.size)
  refine hK.out _ _ (unhide KS _ BB) (fun hHeld => ?_)
  clear hK K
  try simp only [Act.put, List.getElem_toArray, List.getElem_cons_succ, List.getElem_cons_zero, List.setIfInBounds_toArray, List.set_cons_zero, List.set_cons_succ]
  have A13 := hcW
  clear hcv hbW hcW hsz
  generalize X1.heap.size = g13 at A13 ⊢
  refine wpAnyH_ready (rs := [1]) (by kernel_rfl) (by simp) ?_
  refine AllReadyH.cons rfl (fun K hK => ?_) AllReadyH.nil
  go_simp
  obtain ⟨cap1, X3, hcv, hbW, hcW, hsz⟩ := conv_ar X2 y
  rw [hcv, hys]
  rw [hys] at hcW
  go_simp
  have BB := BB.trans (hbW.mono BB.size)
  refine hK.out _ _ (unhide KS _ BB) (fun hHeld => ?_)
  clear hK K
  try simp only [Act.put, List.getElem_toArray, List.getElem_cons_succ, List.getElem_cons_zero, List.setIfInBounds_toArray, List.set_cons_zero, List.set_cons_succ]
  have A13 := A13.below hbW A13.lt
  have A1 := hcW
  clear hcv hbW hcW hsz
  generalize X2.heap.size = g1 at A1 ⊢
  refine wpAnyH_ready (rs := [14]) (by kernel_rfl) (by simp) ?_
  refine AllReadyH.cons rfl (fun K hK => ?_) AllReadyH.nil
  go_simp
  go_at_call 43
  refine (specXor _ _ _ _ _ _ (at8 y) (at8 z) (at8_lt y) (at8_lt z) _ A1 A13).mono ?_
  rintro e X4 ⟨g14, hg14, rfl, a14, b9⟩
  have BB := BB.trans (b9.mono BB.size)
  refine hK.out _ _ (unhide KS _ BB) (fun hHeld => ?_)
  clear hK K
  try simp only [Act.put, List.getElem_toArray, List.getElem_cons_succ, List.getElem_cons_zero, List.setIfInBounds_toArray, List.set_cons_zero, List.set_cons_succ]
  have hst := ar_string a14 (fun i _ => xor_lt _ _ (at8_lt y i) (at8_lt z i)) 16
  clear b9 A1 A13 a14
  refine wpAnyH_ready (rs := [15]) (by kernel_rfl) (by simp) ?_
  refine AllReadyH.cons rfl (fun K hK => ?_) AllReadyH.nil
  go_simp
  refine hK.out _ _ (hHeld) (fun hHeld => ?_)
  clear hK K
  try simp only [Act.put, List.getElem_toArray, List.getElem_cons_succ, List.getElem_cons_zero, List.setIfInBounds_toArray, List.set_cons_zero, List.set_cons_succ]
  refine wpAnyH_ready (rs := [16]) (by kernel_rfl) (by simp) ?_
  refine AllReadyH.cons rfl (fun K hK => ?_) AllReadyH.nil
  go_simp
  refine hK.out _ _ (hHeld) (fun hHeld => ?_)
  clear hK K
  try simp only [Act.put, List.getElem_toArray, List.getElem_cons_succ, List.getElem_cons_zero, List.setIfInBounds_toArray, List.set_cons_zero, List.set_cons_succ]
  refine wpAnyH_done (by kernel_rfl) ?_ _
  exact unhide FIN X4 _ _ _ _ _ _ _ _ _ _ _ _ _ _ _ _ _ _ _ _ _ _ _ _ _ _ _ _ _ _ _ _ _ _ _ _ _ _ _ _ _ _ _ _ _ _ _ _ BB
end Go.Proofs.Ytidkbnbnnhbbiaa
