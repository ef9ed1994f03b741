/-
  Contracts: the model's tag. Contracts: the model's texts that are counted behind a nonce. Contracts: the model's SealText, TagOf, OpenText. Contracts: the program's SealText. Contracts: a number in its lowest bytes, of both sides; bounds. Contracts: RetryTag of both sides.
-/
import Derived.Test.YtgjohakjknmngaaDoorAcoX
import Derived.Test.YtgjohakjknmngaaDoorE5hX
import Derived.Test.YtgjohakjknmngaaDoorObs
import Derived.Test.YtgjohakjknmngaaDoorInbX
namespace Go.Proofs.YtgjohakjknmngaaDoor
open Go.ChangeShapes Go.WideShapes Go.ChangeAt Go.RowKit
set_option linter.unusedVariables false

theorem nbF_congr (f g : Nat → Nat) : ∀ k, (∀ i, i < k → f i = g i) → nbF f k = nbF g k
  | 0, _ => rfl
  | k + 1, h => by rw [nbF, nbF, nbF_congr f g k (fun i hi => h i (by omega)), h k (by omega)]
theorem ghF_congr (kh kl : Nat) (f g : Nat → Nat) : ∀ j, (∀ i, i < 16 * j → f i = g i) → ghF kh kl f j = ghF kh kl g j
  | 0, _ => rfl
  | j + 1, h => by
    rw [ghF, ghF, ghF_congr kh kl f g j (fun i hi => h i (by omega))]
    unfold bkH bkL
    rw [nbF_congr (fun i => f (16 * j + i)) (fun i => g (16 * j + i)) 8 (fun i hi => h _ (by omega)), nbF_congr (fun i => f (16 * j + (8 + i))) (fun i => g (16 * j + (8 + i))) 8 (fun i hi => h _ (by omega))]
theorem hk_hi (key : ByteArray) : hiW (bq 16 (hkF key)) = hkH key := by
  rw [← nbF_hi _ (bq_size _ _)]
  exact nbF_congr _ _ 8 (fun i hi => at8_bq 16 _ i (by omega) (hkF_lt key i))
theorem hk_lo (key : ByteArray) : lo5W (bq 16 (hkF key)) = hkL key := by
  rw [← nbF_lo _ (bq_size _ _)]
  exact nbF_congr _ _ 8 (fun i hi => at8_bq 16 _ (8 + i) (by omega) (hkF_lt key _))
theorem flF_at8 (s : ByteArray) (i : Nat) : flF s.size (at8 s) i = at8 s i := by
  unfold flF
  by_cases e : i < s.size
  · rw [if_pos e]
  · rw [if_neg e, at8_out s i (by omega)]
/-- what is hashed for a tag, as a text -/
def tgT (beside sealed : ByteArray) : ByteArray := bq (flN beside.size) (at8 beside) ++ bq (flN sealed.size) (at8 sealed) ++ bq 8 (fun i => byN (8 * beside.size) (7 - i)) ++ bq 8 (fun i => byN (8 * sealed.size) (7 - i))
theorem tgT_size (beside sealed : ByteArray) : (tgT beside sealed).size = 16 * (flN beside.size / 16 + flN sealed.size / 16 + 1) := by
  have h1 := (flN_le beside.size).2.2
  have h2 := (flN_le sealed.size).2.2
  unfold tgT
  rw [ByteArray.size_append, ByteArray.size_append, ByteArray.size_append, bq_size, bq_size, bq_size, bq_size]
  omega
theorem tgT_at (beside sealed : ByteArray) (i : Nat) (hi : i < 16 * (flN beside.size / 16 + flN sealed.size / 16 + 1)) : at8 (tgT beside sealed) i = tgF beside.size sealed.size (at8 beside) (at8 sealed) i := by
  have h1 := (flN_le beside.size).2.2
  have h2 := (flN_le sealed.size).2.2
  unfold tgT tgF
  rw [at8_append, at8_append, at8_append, ByteArray.size_append, ByteArray.size_append, bq_size, bq_size, bq_size]
  by_cases e1 : i < flN beside.size
  · rw [if_pos (by omega), if_pos (by omega), if_pos e1, if_pos e1, flF_at8, at8_bq _ _ i e1 (at8_lt _ _)]
  · by_cases e2 : i < flN beside.size + flN sealed.size
    · rw [if_pos (by omega), if_pos e2, if_neg e1, if_neg e1, if_pos e2, flF_at8, at8_bq _ _ _ (by omega) (at8_lt _ _)]
    · simp only [if_neg e1, if_neg e2]
      unfold blF
      by_cases e3 : i < flN beside.size + flN sealed.size + 8
      · rw [if_pos e3, if_pos (by omega), at8_bq 8 (fun i => byN (8 * beside.size) (7 - i)) _ (by omega) (byN_lt _ _)]
      · rw [if_neg e3, if_neg (by omega), at8_bq 8 (fun i => byN (8 * sealed.size) (7 - i)) _ (by omega) (byN_lt _ _)]
        congr 1
        omega
theorem specFix8' (n : Nat) (hn : n ≤ 100000) (w : World) :
    Calls Tryd.prog 35 #[.int .i64 (8 * (n : Int)), .int .i64 8] w fun e w' => e = .returned (.string (bq 8 (fun i => byN (8 * n) (7 - i)))) ∧ Below w.heap.size w w' := by
  have := specFix8 (8 * n) (by omega) w
  rw [wraps_i64 _ (by omega) (by omega), show ((8 * n : Nat) : Int) = 8 * (n : Int) by omega] at this
  exact this
/-- the nonce and the number 1 -/
def n1W (nonce : ByteArray) : ByteArray := nonce ++ ⟨#[0, 0, 0, 1]⟩
theorem n1W_size (nonce : ByteArray) (hn : nonce.size = 12) : (n1W nonce).size = 16 := by
  unfold n1W
  rw [ByteArray.size_append, hn]
  rfl
theorem n1W_at (nonce : ByteArray) (hn : nonce.size = 12) (i : Nat) (hi : i < 16) : at8 (n1W nonce) i = plB (at8 nonce) 1 i := by
  unfold n1W plB
  rw [at8_append, hn]
  by_cases e : i < 12
  · rw [if_pos e, if_pos e]
  · rw [if_neg e, if_neg e]
    have h4 : nb4 (at8 nonce) = 0 := by
      unfold nb4
      rw [at8_out nonce 12 (by omega), at8_out nonce 13 (by omega), at8_out nonce 14 (by omega), at8_out nonce 15 (by omega)]
    rw [h4]
    have h : i = 12 ∨ i = 13 ∨ i = 14 ∨ i = 15 := by omega
    rcases h with rfl | rfl | rfl | rfl <;> rfl
set_option maxRecDepth 100000 in
set_option maxHeartbeats 1000000 in
theorem specTag (kb gk ok ck gt : Nat) (key nonce beside sealed : ByteArray) (hn : nonce.size = 12) (hb : beside.size ≤ 1500) (hs : sealed.size ≤ 1500) (w : World) (hM : SM w kb gk ok ck gt key) :
    Calls Tryd.prog 52 #[.pointer (some ⟨kb, 0, none⟩), .string nonce, .string beside, .string sealed] w fun e w' => e = .returned (.string (bq 16 (tgB key nonce beside.size sealed.size (at8 beside) (at8 sealed)))) ∧ Below w.heap.size w w' := by
  have H1 := hide (fun W => specFull beside (by omega) W)
  have H2 := hide (fun W => specFull sealed (by omega) W)
  have H3 := hide (fun W => specFix8' beside.size (by omega) W)
  have H4 := hide (fun W => specFix8' sealed.size (by omega) W)
  have hz1 := flN_le beside.size
  have hz2 := flN_le sealed.size
  have ad1 := fun W : World => run_string_add_sum (P := Tryd.prog) (w := W) (bq (flN beside.size) (at8 beside)) (bq (flN sealed.size) (at8 sealed)) (by rw [bq_size, bq_size]; omega)
  have ad2 := fun W : World => run_string_add_sum (P := Tryd.prog) (w := W) (bq (flN beside.size) (at8 beside) ++ bq (flN sealed.size) (at8 sealed)) (bq 8 (fun i => byN (8 * beside.size) (7 - i))) (by rw [ByteArray.size_append, bq_size, bq_size, bq_size]; omega)
  have ad3 := fun W : World => run_string_add_sum (P := Tryd.prog) (w := W) (bq (flN beside.size) (at8 beside) ++ bq (flN sealed.size) (at8 sealed) ++ bq 8 (fun i => byN (8 * beside.size) (7 - i))) (bq 8 (fun i => byN (8 * sealed.size) (7 - i))) (by rw [ByteArray.size_append, ByteArray.size_append, bq_size, bq_size, bq_size, bq_size]; omega)
  have HT : Hid (bq (flN beside.size) (at8 beside) ++ bq (flN sealed.size) (at8 sealed) ++ bq 8 (fun i => byN (8 * beside.size) (7 - i)) ++ bq 8 (fun i => byN (8 * sealed.size) (7 - i)) = tgT beside sealed) := rfl
  generalize bq (flN beside.size) (at8 beside) ++ bq (flN sealed.size) (at8 sealed) ++ bq 8 (fun i => byN (8 * beside.size) (7 - i)) ++ bq 8 (fun i => byN (8 * sealed.size) (7 - i)) = T at *
  generalize bq (flN beside.size) (at8 beside) ++ bq (flN sealed.size) (at8 sealed) ++ bq 8 (fun i => byN (8 * beside.size) (7 - i)) = T3 at *
  generalize bq (flN beside.size) (at8 beside) ++ bq (flN sealed.size) (at8 sealed) = T2 at *
  generalize bq (flN beside.size) (at8 beside) = t1 at *
  generalize bq (flN sealed.size) (at8 sealed) = t2 at *
  generalize bq 8 (fun i => byN (8 * beside.size) (7 - i)) = t3 at *
  generalize bq 8 (fun i => byN (8 * sealed.size) (7 - i)) = t4 at *
  have HM := hide hM
  obtain ⟨n, hnn⟩ : ∃ n : Nat, n = flN beside.size / 16 + flN sealed.size / 16 + 1 := ⟨_, rfl⟩
  have hTs : T.size = 16 * n := by rw [unhide HT, hnn]; exact tgT_size beside sealed
  have hghe : ghF (hkH key) (hkL key) (at8 T) n = tgP key beside.size sealed.size (at8 beside) (at8 sealed) := by
    unfold tgP
    rw [hnn]
    exact ghF_congr _ _ _ _ _ (fun i hi => by rw [unhide HT]; exact tgT_at beside sealed i hi)
  have H5 := fun W => specGhash (bq 16 (hkF key)) T n (bq_size _ _) hTs (by omega) W
  rw [hk_hi, hk_lo, hghe] at H5
  have H5 := hide H5
  have hpl := tgP_lt key beside.size sealed.size (at8 beside) (at8 sealed)
  have H6 := hide (fun W => specTold _ _ hpl.1 hpl.2 W)
  clear hM hz1 hz2 hTs hghe hnn
  go_enter Tryd.func52, Tryd.ntmps52
  go_wp2_with (first
    | (go_at_call 66; with_reducible refine (unhide H1 _).mono ?_; rintro e w1 ⟨rfl, h9⟩; rw [h9]; clear h9 w1)
    | (go_at_call 66; with_reducible refine (unhide H2 _).mono ?_; rintro e w1 ⟨rfl, h9⟩; rw [h9]; clear h9 w1)
    | (go_at_call 35; with_reducible refine (unhide H3 _).mono ?_; rintro e w3 ⟨rfl, b3⟩; have B3 := hide b3; clear b3)
    | (go_at_call 35; with_reducible refine (unhide H4 _).mono ?_; rintro e w4 ⟨rfl, b4⟩; have M4 := (unhide HM).keep ((unhide B3).trans (b4.mono (unhide B3).size)); have c2 := M4.c2; have HM4 := hide M4; have B4 := hide ((unhide B3).trans (b4.mono (unhide B3).size)); clear b4 M4)
    | (go_at_call 68; with_reducible refine (unhide H5 _).mono ?_; rintro e w5 ⟨rfl, b5⟩; have B5 := hide b5; clear b5)
    | (go_at_call 67; with_reducible refine (unhide H6 _).mono ?_; rintro e w6 ⟨rfl, b6⟩; have B6 := hide b6; clear b6))
  have B7 := hide ((unhide B4).trans (((unhide B5).trans ((unhide B6).mono (unhide B5).size)).mono (unhide B4).size))
  have M7 := ((unhide HM4).keep (unhide B5)).keep (unhide B6)
  clear c2 HM4 B3 B4 B5 B6 H1 H2 H3 H4 H5 H6 ad1 ad2 ad3 HM
  have hys := tlW_size (tgP key beside.size sealed.size (at8 beside) (at8 sealed)).1 (tgP key beside.size sealed.size (at8 beside) (at8 sealed)).2
  have hyb := tlW_bq (tgP key beside.size sealed.size (at8 beside) (at8 sealed)).1 (tgP key beside.size sealed.size (at8 beside) (at8 sealed)).2
  have HY : Hid (∀ i, i < 16 → at8 (tlW (tgP key beside.size sealed.size (at8 beside) (at8 sealed)).1 (tgP key beside.size sealed.size (at8 beside) (at8 sealed)).2) i = blF (tgP key beside.size sealed.size (at8 beside) (at8 sealed)).1 (tgP key beside.size sealed.size (at8 beside) (at8 sealed)).2 i) := fun i hi => by rw [hyb]; exact at8_bq 16 _ i hi (blF_lt _ _ _)
  have hn1 := n1W_size nonce hn
  have HW0 : Hid (∀ V, SM V kb gk ok ck gt key → Calls Tryd.prog 50 #[.slice (some ⟨gk, ok, none⟩) 176 ck, .slice (some ⟨gt, 0, none⟩) 256 256, .string (n1W nonce)] V fun e w' => e = .returned (.string (bq 16 (fw (rk (at8 key)) (at8 (n1W nonce)) 10))) ∧ Below V.heap.size V w') := fun V h => specWith gk ok ck gt 256 (at8 key) (n1W nonce) (at8_lt key) hn1 h.le V h.ks h.tb
  have hzs := bq_size 16 (fw (rk (at8 key)) (at8 (n1W nonce)) 10)
  have HZ : Hid (∀ i, i < 16 → at8 (bq 16 (fw (rk (at8 key)) (at8 (n1W nonce)) 10)) i = fw (rk (at8 key)) (plB (at8 nonce) 1) 10 i) := fun i hi => by
    rw [at8_bq 16 _ i hi (fw_lt (rk (at8 key)) _ (fun n i => rk_lt (at8 key) (at8_lt key) n i) (at8_lt _) 10 _)]
    exact fw_congr _ _ _ (fun j hj => n1W_at nonce hn j hj) 10 i hi
  have HE : Hid (bq 16 (fun i => at8 (tlW (tgP key beside.size sealed.size (at8 beside) (at8 sealed)).1 (tgP key beside.size sealed.size (at8 beside) (at8 sealed)).2) i ^^^ at8 (bq 16 (fw (rk (at8 key)) (at8 (n1W nonce)) 10)) i) = bq 16 (tgB key nonce beside.size sealed.size (at8 beside) (at8 sealed))) := bq_congr (fun i hi => by rw [unhide HY i hi, unhide HZ i hi]; rfl)
  have ad := fun W : World => run_string_add_sum (P := Tryd.prog) (w := W) nonce ⟨#[0, 0, 0, 1]⟩ (by rw [hn]; show 12 + 4 ≤ _; omega)
  have HN1 : Hid (nonce ++ ⟨#[0, 0, 0, 1]⟩ = n1W nonce) := rfl
  rw [unhide HN1] at ad
  generalize n1W nonce = nw at *
  generalize bq 16 (fw (rk (at8 key)) (at8 nw) 10) = z at *
  generalize tlW (tgP key beside.size sealed.size (at8 beside) (at8 sealed)).1 (tgP key beside.size sealed.size (at8 beside) (at8 sealed)).2 = y at *
  clear hyb hn1 hpl
  have MD : SM w6.drew kb gk ok ck gt key := ⟨M7.c0, M7.c1, M7.c2, M7.lt, M7.le, M7.ks.drew, M7.tb.drew⟩
  have B8 := hide (unhide B7).drew
  have KS : Hid (∀ V, Below w6.drew.heap.size w6.drew V → V.cell? ⟨kb, 0, none⟩ = some (.slice (some ⟨gk, ok, none⟩) 176 ck) ∧ V.cell? ⟨kb, 1, none⟩ = some (.slice (some ⟨gt, 0, none⟩) 256 256)) := fun V hV => ⟨(MD.keep hV).c0, (MD.keep hV).c1⟩
  have HW := hide (fun V (hV : Below w6.drew.heap.size w6.drew V) => unhide HW0 V (MD.keep hV))
  have BB : Below w6.drew.heap.size w6.drew w6.drew := Below.refl _ _
  clear HW0 M7 MD B7 HY HZ
  rename_i Q9 K9 hK9
  have FIN : Hid (∀ (VF : World) (u0 u1 u2 u3 u4 u5 u6 u7 u9 u10 u11 u12 u13 u14 u15 u16 u17 u18 u19 u20 u21 u22 u23 u24 u25 u26 u27 u28 u29 u30 u31 u32 u33 u34 u35 u36 u37 u38 u39 u40 u41 u42 u43 u44 u45 u46 u47 u48 : Value), Below w6.drew.heap.size w6.drew VF → Exit.then K9 Q9 .normal { tmps := #[u0, u1, u2, u3, u4, u5, u6, u7, .string (bq 16 (fun i => at8 y i ^^^ at8 z i)), u9, u10, u11, u12, u13, u14, u15, u16, u17, u18, u19, u20, u21, u22, u23, u24, u25, u26, u27, u28, u29, u30, u31, u32, u33, u34, u35, u36, u37, u38, u39, u40, u41, u42, u43, u44, u45, u46, u47, u48], defers := [] } VF) := by
    intro VF u0 u1 u2 u3 u4 u5 u6 u7 u9 u10 u11 u12 u13 u14 u15 u16 u17 u18 u19 u20 u21 u22 u23 u24 u25 u26 u27 u28 u29 u30 u31 u32 u33 u34 u35 u36 u37 u38 u39 u40 u41 u42 u43 u44 u45 u46 u47 u48 hV
    have HV := hide ((unhide B8).trans (hV.mono (unhide B8).size))
    clear hV
    refine hK9 _ _ ?_
    go_wp2
    go_ret
    exact ⟨by rw [← unhide HE]; rfl, unhide HV⟩
  refine wp_region_held_drew (S := fun V => V.cell? ⟨kb, 0, none⟩ = some (.slice (some ⟨gk, ok, none⟩) 176 ck) ∧ V.cell? ⟨kb, 1, none⟩ = some (.slice (some ⟨gt, 0, none⟩) 256 256)) (by kernel_rfl) (unhide KS _ BB) (fun hHeld => ?_)
  generalize w6.drew = V0 at *
  refine wpAnyH_take (i := 0) (v := ?_) rfl (by kernel_rfl) (by kernel_rfl) (by kernel_rfl) (fun _ _ _ h => h) (Or.inl ⟨by rfl, ?_⟩) hHeld ?_
  rotate_left
  · intro V hSw; go_simp; rfl
  simp only [Act.put, List.getElem_toArray, List.getElem_cons_zero, List.setIfInBounds_toArray, List.set_cons_zero, List.set_cons_succ]
  refine wpAnyH_take (i := 2) (v := ?_) rfl (by kernel_rfl) (by kernel_rfl) (by kernel_rfl) (fun _ _ _ h => h) (Or.inl ⟨by rfl, ?_⟩) hHeld ?_
  rotate_left
  · intro V hSw; go_simp; rfl
  simp only [Act.put, List.getElem_toArray, List.getElem_cons_succ, List.getElem_cons_zero, List.setIfInBounds_toArray, List.set_cons_zero, List.set_cons_succ]
  refine wpAnyH_take (i := 3) (v := ?_) rfl (by kernel_rfl) (by kernel_rfl) (by kernel_rfl) (fun _ _ _ h => h) (Or.inl ⟨by rfl, ?_⟩) hHeld ?_
  rotate_left
  · intro V hSw; go_simp; rfl
  simp only [Act.put, List.getElem_toArray, List.getElem_cons_succ, List.getElem_cons_zero, List.setIfInBounds_toArray, List.set_cons_zero, List.set_cons_succ]
  refine wpAnyH_take (i := 4) (v := ?_) rfl (by kernel_rfl) (by kernel_rfl) (by kernel_rfl) (fun _ _ _ h => h) (Or.inl ⟨by rfl, ?_⟩) hHeld ?_
  rotate_left
  · intro V hSw; go_simp; rfl
  simp only [Act.put, List.getElem_toArray, List.getElem_cons_succ, List.getElem_cons_zero, List.setIfInBounds_toArray, List.set_cons_zero, List.set_cons_succ]
  refine wpAnyH_take (i := 5) (v := ?_) rfl (by kernel_rfl) (by kernel_rfl) (by kernel_rfl) (fun _ _ _ h => h) (Or.inl ⟨by rfl, ?_⟩) hHeld ?_
  rotate_left
  · intro V hSw; go_simp; rfl
  simp only [Act.put, List.getElem_toArray, List.getElem_cons_succ, List.getElem_cons_zero, List.setIfInBounds_toArray, List.set_cons_zero, List.set_cons_succ]
  refine wpAnyH_take (i := 6) (v := ?_) rfl (by kernel_rfl) (by kernel_rfl) (by kernel_rfl) (fun _ _ _ h => h) (Or.inl ⟨by rfl, ?_⟩) hHeld ?_
  rotate_left
  · intro V hSw; go_simp; rfl
  simp only [Act.put, List.getElem_toArray, List.getElem_cons_succ, List.getElem_cons_zero, List.setIfInBounds_toArray, List.set_cons_zero, List.set_cons_succ]
  refine wpAnyH_take (i := 7) (v := ?_) rfl (by kernel_rfl) (by kernel_rfl) (by kernel_rfl) (fun _ _ _ h => h) (Or.inl ⟨by rfl, ?_⟩) hHeld ?_
  rotate_left
  · intro V hSw; go_simp; rfl
  simp only [Act.put, List.getElem_toArray, List.getElem_cons_succ, List.getElem_cons_zero, List.setIfInBounds_toArray, List.set_cons_zero, List.set_cons_succ]
  refine wpAnyH_take (i := 8) (v := ?_) rfl (by kernel_rfl) (by kernel_rfl) (by kernel_rfl) (fun _ _ _ h => h) (Or.inl ⟨by rfl, ?_⟩) hHeld ?_
  rotate_left
  · intro V hSw; go_simp; rfl
  simp only [Act.put, List.getElem_toArray, List.getElem_cons_succ, List.getElem_cons_zero, List.setIfInBounds_toArray, List.set_cons_zero, List.set_cons_succ]
  refine wpAnyH_take (i := 9) (v := ?_) rfl (by kernel_rfl) (by kernel_rfl) (by kernel_rfl) (fun _ _ _ h => h) (Or.inl ⟨by rfl, ?_⟩) hHeld ?_
  rotate_left
  · intro V hSw; go_simp; rfl
  simp only [Act.put, List.getElem_toArray, List.getElem_cons_succ, List.getElem_cons_zero, List.setIfInBounds_toArray, List.set_cons_zero, List.set_cons_succ]
  refine wpAnyH_take (i := 10) (v := ?_) rfl (by kernel_rfl) (by kernel_rfl) (by kernel_rfl) (fun _ _ _ h => h) (Or.inl ⟨by rfl, ?_⟩) hHeld ?_
  rotate_left
  · intro V hSw; go_simp; rfl
  simp only [Act.put, List.getElem_toArray, List.getElem_cons_succ, List.getElem_cons_zero, List.setIfInBounds_toArray, List.set_cons_zero, List.set_cons_succ]
  refine wpAnyH_take (i := 11) (v := ?_) rfl (by kernel_rfl) (by kernel_rfl) (by kernel_rfl) (fun _ _ _ h => h) (Or.inl ⟨by rfl, ?_⟩) hHeld ?_
  rotate_left
  · intro V hSw; go_simp; rfl
  simp only [Act.put, List.getElem_toArray, List.getElem_cons_succ, List.getElem_cons_zero, List.setIfInBounds_toArray, List.set_cons_zero, List.set_cons_succ]
  refine wpAnyH_ready (rs := [1, 12]) (by kernel_rfl) (by simp) ?_
  refine AllReadyH.cons rfl (fun K hK => ?_) (AllReadyH.cons rfl (fun K hK => ?_) AllReadyH.nil)
  go_simp
  obtain ⟨cap1, X1, hcv, hbW, hcW, hsz⟩ := conv_ar V0 y
  rw [hcv, hys]
  rw [hys] at hcW
  go_simp
  have BB := BB.trans (hbW.mono BB.size)
  refine hK.out _ _ (unhide KS _ BB) (fun hHeld => ?_)
  clear hK K
  try simp only [Act.put, List.getElem_toArray, List.getElem_cons_succ, List.getElem_cons_zero, List.setIfInBounds_toArray, List.set_cons_zero, List.set_cons_succ]
  have A1 := hcW
  clear hcv hbW hcW hsz
  generalize V0.heap.size = g1 at A1 ⊢
  refine wpAnyH_ready (rs := [12]) (by kernel_rfl) (by simp) ?_
  refine AllReadyH.cons rfl (fun K hK => ?_) AllReadyH.nil
  go_simp
  go_at_call 50
  refine (unhide HW _ BB).mono ?_
  rintro e X2 ⟨rfl, b9⟩
  have BB := BB.trans (b9.mono BB.size)
  refine hK.out _ _ (unhide KS _ BB) (fun hHeld => ?_)
  clear hK K
  try simp only [Act.put, List.getElem_toArray, List.getElem_cons_succ, List.getElem_cons_zero, List.setIfInBounds_toArray, List.set_cons_zero, List.set_cons_succ]
  have A1 := A1.below b9 A1.lt
  clear b9
  refine wpAnyH_ready (rs := [13]) (by kernel_rfl) (by simp) ?_
  refine AllReadyH.cons rfl (fun K hK => ?_) AllReadyH.nil
  go_simp
  obtain ⟨cap13, X3, hcv, hbW, hcW, hsz⟩ := conv_ar X2 z
  rw [hcv, hzs]
  rw [hzs] at hcW
  go_simp
  have BB := BB.trans (hbW.mono BB.size)
  refine hK.out _ _ (unhide KS _ BB) (fun hHeld => ?_)
  clear hK K
  try simp only [Act.put, List.getElem_toArray, List.getElem_cons_succ, List.getElem_cons_zero, List.setIfInBounds_toArray, List.set_cons_zero, List.set_cons_succ]
  have A1 := A1.below hbW A1.lt
  have A13 := hcW
  clear hcv hbW hcW hsz
  generalize X2.heap.size = g13 at A13 ⊢
  refine wpAnyH_ready (rs := [14]) (by kernel_rfl) (by simp) ?_
  refine AllReadyH.cons rfl (fun K hK => ?_) AllReadyH.nil
  go_simp
  go_at_call 64
  refine (specXor _ _ _ _ _ _ (at8 y) (at8 z) (at8_lt y) (at8_lt z) _ A1 A13).mono ?_
  rintro e X4 ⟨g14, hg14, rfl, a14, b9⟩
  have BB := BB.trans (b9.mono BB.size)
  refine hK.out _ _ (unhide KS _ BB) (fun hHeld => ?_)
  clear hK K
  try simp only [Act.put, List.getElem_toArray, List.getElem_cons_succ, List.getElem_cons_zero, List.setIfInBounds_toArray, List.set_cons_zero, List.set_cons_succ]
  have hst := ar_string a14 (fun i _ => xor_lt _ _ (at8_lt y i) (at8_lt z i)) 16
  clear b9 A1 A13 a14
  refine wpAnyH_ready (rs := [15]) (by kernel_rfl) (by simp) ?_
  refine AllReadyH.cons rfl (fun K hK => ?_) AllReadyH.nil
  go_simp
  refine hK.out _ _ (hHeld) (fun hHeld => ?_)
  clear hK K
  try simp only [Act.put, List.getElem_toArray, List.getElem_cons_succ, List.getElem_cons_zero, List.setIfInBounds_toArray, List.set_cons_zero, List.set_cons_succ]
  refine wpAnyH_ready (rs := [16]) (by kernel_rfl) (by simp) ?_
  refine AllReadyH.cons rfl (fun K hK => ?_) AllReadyH.nil
  go_simp
  refine hK.out _ _ (hHeld) (fun hHeld => ?_)
  clear hK K
  try simp only [Act.put, List.getElem_toArray, List.getElem_cons_succ, List.getElem_cons_zero, List.setIfInBounds_toArray, List.set_cons_zero, List.set_cons_succ]
  refine wpAnyH_done (by kernel_rfl) ?_ _
  exact unhide FIN X4 _ _ _ _ _ _ _ _ _ _ _ _ _ _ _ _ _ _ _ _ _ _ _ _ _ _ _ _ _ _ _ _ _ _ _ _ _ _ _ _ _ _ _ _ _ _ _ _ BB
  go_simp
  go_at_call 50
  refine (unhide HW _ BB).mono ?_
  rintro e X1 ⟨rfl, b9⟩
  have BB := BB.trans (b9.mono BB.size)
  refine hK.out _ _ (unhide KS _ BB) (fun hHeld => ?_)
  clear hK K
  try simp only [Act.put, List.getElem_toArray, List.getElem_cons_succ, List.getElem_cons_zero, List.setIfInBounds_toArray, List.set_cons_zero, List.set_cons_succ]
  clear b9
  refine wpAnyH_ready (rs := [1, 13]) (by kernel_rfl) (by simp) ?_
  refine AllReadyH.cons rfl (fun K hK => ?_) (AllReadyH.cons rfl (fun K hK => ?_) AllReadyH.nil)
  go_simp
  obtain ⟨cap1, X2, hcv, hbW, hcW, hsz⟩ := conv_ar X1 y
  rw [hcv, hys]
  rw [hys] at hcW
  go_simp
  have BB := BB.trans (hbW.mono BB.size)
  refine hK.out _ _ (unhide KS _ BB) (fun hHeld => ?_)
  clear hK K
  try simp only [Act.put, List.getElem_toArray, List.getElem_cons_succ, List.getElem_cons_zero, List.setIfInBounds_toArray, List.set_cons_zero, List.set_cons_succ]
  have A1 := hcW
  clear hcv hbW hcW hsz
  generalize X1.heap.size = g1 at A1 ⊢
  refine wpAnyH_ready (rs := [13]) (by kernel_rfl) (by simp) ?_
  refine AllReadyH.cons rfl (fun K hK => ?_) AllReadyH.nil
  go_simp
  obtain ⟨cap13, X3, hcv, hbW, hcW, hsz⟩ := conv_ar X2 z
  rw [hcv, hzs]
  rw [hzs] at hcW
  go_simp
  have BB := BB.trans (hbW.mono BB.size)
  refine hK.out _ _ (unhide KS _ BB) (fun hHeld => ?_)
  clear hK K
  try simp only [Act.put, List.getElem_toArray, List.getElem_cons_succ, List.getElem_cons_zero, List.setIfInBounds_toArray, List.set_cons_zero, List.set_cons_succ]
  have A1 := A1.below hbW A1.lt
  have A13 := hcW
  clear hcv hbW hcW hsz
  generalize X2.heap.size = g13 at A13 ⊢
  refine wpAnyH_ready (rs := [14]) (by kernel_rfl) (by simp) ?_
  refine AllReadyH.cons rfl (fun K hK => ?_) AllReadyH.nil
  go_simp
  go_at_call 64
  refine (specXor _ _ _ _ _ _ (at8 y) (at8 z) (at8_lt y) (at8_lt z) _ A1 A13).mono ?_
  rintro e X4 ⟨g14, hg14, rfl, a14, b9⟩
  have BB := BB.trans (b9.mono BB.size)
  refine hK.out _ _ (unhide KS _ BB) (fun hHeld => ?_)
  clear hK K
  try simp only [Act.put, List.getElem_toArray, List.getElem_cons_succ, List.getElem_cons_zero, List.setIfInBounds_toArray, List.set_cons_zero, List.set_cons_succ]
  have hst := ar_string a14 (fun i _ => xor_lt _ _ (at8_lt y i) (at8_lt z i)) 16
  clear b9 A1 A13 a14
  refine wpAnyH_ready (rs := [15]) (by kernel_rfl) (by simp) ?_
  refine AllReadyH.cons rfl (fun K hK => ?_) AllReadyH.nil
  go_simp
  refine hK.out _ _ (hHeld) (fun hHeld => ?_)
  clear hK K
  try simp only [Act.put, List.getElem_toArray, List.getElem_cons_succ, List.getElem_cons_zero, List.setIfInBounds_toArray, List.set_cons_zero, List.set_cons_succ]
  refine wpAnyH_ready (rs := [16]) (by kernel_rfl) (by simp) ?_
  refine AllReadyH.cons rfl (fun K hK => ?_) AllReadyH.nil
  go_simp
  refine hK.out _ _ (hHeld) (fun hHeld => ?_)
  clear hK K
  try simp only [Act.put, List.getElem_toArray, List.getElem_cons_succ, List.getElem_cons_zero, List.setIfInBounds_toArray, List.set_cons_zero, List.set_cons_succ]
  refine wpAnyH_done (by kernel_rfl) ?_ _
  exact unhide FIN X4 _ _ _ _ _ _ _ _ _ _ _ _ _ _ _ _ _ _ _ _ _ _ _ _ _ _ _ _ _ _ _ _ _ _ _ _ _ _ _ _ _ _ _ _ _ _ _ _ BB
  go_simp
  obtain ⟨cap13, X2, hcv, hbW, hcW, hsz⟩ := conv_ar X1 z
  rw [hcv, hzs]
  rw [hzs] at hcW
  go_simp
  have BB := BB.trans (hbW.mono BB.size)
  refine hK.out _ _ (unhide KS _ BB) (fun hHeld => ?_)
  clear hK K
  try simp only [Act.put, List.getElem_toArray, List.getElem_cons_succ, List.getElem_cons_zero, List.setIfInBounds_toArray, List.set_cons_zero, List.set_cons_succ]
  have A13 := hcW
  clear hcv hbW hcW hsz
  generalize X1.heap.size = g13 at A13 ⊢
  refine wpAnyH_ready (rs := [1]) (by kernel_rfl) (by simp) ?_
  refine AllReadyH.cons rfl (fun K hK => ?_) AllReadyH.nil
  go_simp
  obtain ⟨cap1, X3, hcv, hbW, hcW, hsz⟩ := conv_ar X2 y
  rw [hcv, hys]
  rw [hys] at hcW
  go_simp
  have BB := BB.trans (hbW.mono BB.size)
  refine hK.out _ _ (unhide KS _ BB) (fun hHeld => ?_)
  clear hK K
  try simp only [Act.put, List.getElem_toArray, List.getElem_cons_succ, List.getElem_cons_zero, List.setIfInBounds_toArray, List.set_cons_zero, List.set_cons_succ]
  have A13 := A13.below hbW A13.lt
  have A1 := hcW
  clear hcv hbW hcW hsz
  generalize X2.heap.size = g1 at A1 ⊢
  refine wpAnyH_ready (rs := [14]) (by kernel_rfl) (by simp) ?_
  refine AllReadyH.cons rfl (fun K hK => ?_) AllReadyH.nil
  go_simp
  go_at_call 64
  refine (specXor _ _ _ _ _ _ (at8 y) (at8 z) (at8_lt y) (at8_lt z) _ A1 A13).mono ?_
  rintro e X4 ⟨g14, hg14, rfl, a14, b9⟩
  have BB := BB.trans (b9.mono BB.size)
  refine hK.out _ _ (unhide KS _ BB) (fun hHeld => ?_)
  clear hK K
  try simp only [Act.put, List.getElem_toArray, List.getElem_cons_succ, List.getElem_cons_zero, List.setIfInBounds_toArray, List.set_cons_zero, List.set_cons_succ]
  have hst := ar_string a14 (fun i _ => xor_lt _ _ (at8_lt y i) (at8_lt z i)) 16
  clear b9 A1 A13 a14
  refine wpAnyH_ready (rs := [15]) (by kernel_rfl) (by simp) ?_
  refine AllReadyH.cons rfl (fun K hK => ?_) AllReadyH.nil
  go_simp
  refine hK.out _ _ (hHeld) (fun hHeld => ?_)
  clear hK K
  try simp only [Act.put, List.getElem_toArray, List.getElem_cons_succ, List.getElem_cons_zero, List.setIfInBounds_toArray, List.set_cons_zero, List.set_cons_succ]
  refine wpAnyH_ready (rs := [16]) (by kernel_rfl) (by simp) ?_
  refine AllReadyH.cons rfl (fun K hK => ?_) AllReadyH.nil
  go_simp
  refine hK.out _ _ (hHeld) (fun hHeld => ?_)
  clear hK K
  try simp only [Act.put, List.getElem_toArray, List.getElem_cons_succ, List.getElem_cons_zero, List.setIfInBounds_toArray, List.set_cons_zero, List.set_cons_succ]
  refine wpAnyH_done (by kernel_rfl) ?_ _
  exact unhide FIN X4 _ _ _ _ _ _ _ _ _ _ _ _ _ _ _ _ _ _ _ _ _ _ _ _ _ _ _ _ _ _ _ _ _ _ _ _ _ _ _ _ _ _ _ _ _ _ _ _ BB
end Go.Proofs.YtgjohakjknmngaaDoor
namespace Go.Proofs.YtgjohakjknmngaaDoor
open Go.ChangeShapes Go.WideShapes Go.ChangeAt Go.RowKit
set_option linter.unusedVariables false

/-- a text that is counted behind a nonce -/
def cnF (key nonce t : ByteArray) (i : Nat) : Nat := at8 t i ^^^ cvW (rk (at8 key)) (plB (at8 nonce) 2) i
theorem cnF_lt (key nonce t : ByteArray) (i : Nat) : cnF key nonce t i < 256 := xor_lt _ _ (at8_lt t i) (fw_lt (rk (at8 key)) _ (fun n i => rk_lt (at8 key) (at8_lt key) n i) (plB_lt _ (plB_lt _ (at8_lt nonce) _) _) 10 _)
theorem pl_pl (f : Nat → Nat) (a b i : Nat) : plB (plB f a) b i = plB f (a + b) i := by
  rw [plB_def (plB f a) b i, nb4_plB]
  by_cases e : i < 12
  · rw [if_pos e, plB_def f a i, if_pos e, plB_def f (a + b) i, if_pos e]
  · rw [if_neg e, plB_def f (a + b) i, if_neg e, ← Nat.add_assoc]
    generalize nb4 f + a = x
    have h : 15 - i = 0 ∨ 15 - i = 1 ∨ 15 - i = 2 ∨ 15 - i = 3 := by omega
    unfold byV
    rcases h with h | h | h | h <;> rw [h] <;> omega
theorem nn_size (nonce : ByteArray) (hn : nonce.size = 12) (n : Nat) : (nonce ++ bq 4 (fun i => byV n (3 - i))).size = 16 := by rw [ByteArray.size_append, bq_size, hn]
theorem nn_at (nonce : ByteArray) (hn : nonce.size = 12) (n i : Nat) (hi : i < 16) : at8 (nonce ++ bq 4 (fun i => byV n (3 - i))) i = plB (at8 nonce) n i := by
  unfold plB
  rw [at8_append, hn]
  by_cases e : i < 12
  · rw [if_pos e, if_pos e]
  · have h4 : nb4 (at8 nonce) = 0 := by
      unfold nb4
      rw [at8_out nonce 12 (by omega), at8_out nonce 13 (by omega), at8_out nonce 14 (by omega), at8_out nonce 15 (by omega)]
    rw [if_neg e, if_neg e, h4, Nat.zero_add, at8_bq 4 (fun i => byV n (3 - i)) (i - 12) (by omega) (byV_lt _ _), show 3 - (i - 12) = 15 - i by omega]
set_option maxRecDepth 100000 in
set_option maxHeartbeats 1000000 in
theorem specCount (kb gk ok ck gt : Nat) (key nonce t : ByteArray) (hn : nonce.size = 12) (ht : t.size ≤ 1500) (w : World) (hM : SM w kb gk ok ck gt key) :
    Calls Tryd.prog 51 #[.pointer (some ⟨kb, 0, none⟩), .string nonce, .string t] w fun e w' => e = .returned (.string (bq t.size (cnF key nonce t))) ∧ Below w.heap.size w w' := by
  have hF : ∀ i, cnF key nonce t i = at8 t i ^^^ fw (rk (at8 key)) (plB (plB (at8 nonce) 2) (i / 16)) 10 (i % 16) := fun i => rfl
  have HL := hide (cnF_lt key nonce t)
  have HNA := hide (fun n i (hi : i < 16) => nn_at nonce hn n i hi)
  have HNS := hide (fun n => nn_size nonce hn n)
  generalize hFF : cnF key nonce t = F at *
  have HFF := hide hFF
  have HF := hide hF
  have HM := hide hM
  clear hF hM hFF
  go_enter Tryd.func51, Tryd.ntmps51
  go_wp2_with fail
  go_loopw [7, 8] (fun v av wr => ∃ j a : Nat, a = 16 * j ∧ j ≤ (t.size + 15) / 16 ∧ av = .int .i64 (a : Nat) ∧ Ob w.heap.size wr v (min a t.size) F ∧ Below w.heap.size w wr) (fun _ av _ => 20000 - (intOf av).toNat)
  case atStart => exact ⟨0, 0, rfl, by omega, rfl, by rw [Nat.zero_min]; exact Ob.nil _ _ _, Below.refl _ _⟩
  case round =>
    obtain ⟨j, a, ha, hj, rfl, hO, hB⟩ := hrel
    by_cases hlt : a < t.size
    · rw [Nat.min_eq_left (by omega)] at hO
      obtain ⟨n, hnj⟩ : ∃ n : Nat, n = 2 + j := ⟨_, rfl⟩
      have hn32 : n < 4294967296 := by omega
      have HC1 := unhide HNA n
      have HXS := unhide HNS n
      have HX : Hid (∀ i, i < 16 → at8 (bq 16 (fw (rk (at8 key)) (at8 (nonce ++ bq 4 fun i => byV n (3 - i))) 10)) i < 256 ∧ F (a + i) = at8 t (a + i) ^^^ at8 (bq 16 (fw (rk (at8 key)) (at8 (nonce ++ bq 4 fun i => byV n (3 - i))) 10)) i) := fun i hi => by
        refine ⟨at8_lt _ _, ?_⟩
        rw [unhide HF, at8_bq 16 _ i hi (fw_lt (rk (at8 key)) _ (fun n i => rk_lt (at8 key) (at8_lt key) n i) (at8_lt _) 10 _), fw_congr _ _ _ HC1 10 i hi, show (a + i) / 16 = j by omega, show (a + i) % 16 = i by omega, fw_congr _ _ (plB (at8 nonce) n) (fun q hq => by rw [pl_pl, ← hnj]) 10 i hi]
      have HXZ := hide (bq_size 16 (fw (rk (at8 key)) (at8 (nonce ++ bq 4 fun i => byV n (3 - i))) 10))
      have HWI := hide (fun W (h : SM W kb gk ok ck gt key) => specWith gk ok ck gt 256 (at8 key) _ (at8_lt key) HXS h.le W h.ks h.tb)
      have HF4 := hide (fun W => specFix4 n hn32 W)
      have M3 := (unhide HM).keep hB
      have MD : SM wr.drew kb gk ok ck gt key := ⟨M3.c0, M3.c1, M3.c2, M3.lt, M3.le, M3.ks.drew, M3.tb.drew⟩
      have S0 : Hid (wr.drew.cell? ⟨kb, 0, none⟩ = some (.slice (some ⟨gk, ok, none⟩) 176 ck) ∧ wr.drew.cell? ⟨kb, 1, none⟩ = some (.slice (some ⟨gt, 0, none⟩) 256 256)) := ⟨MD.c0, MD.c1⟩
      have KQ : Hid (∀ V, Below wr.drew.heap.size wr.drew V → V.cell? ⟨kb, 0, none⟩ = some (.slice (some ⟨gk, ok, none⟩) 176 ck) ∧ V.cell? ⟨kb, 1, none⟩ = some (.slice (some ⟨gt, 0, none⟩) 256 256)) := fun V hV => ⟨(MD.keep hV).c0, (MD.keep hV).c1⟩
      have HMD := hide MD
      have O3 := hide (hO.kept (Below.refl _ _).drew)
      have B3 := hide hB.drew
      have wn : IntKind.i64.wrap (2 + (j : Int)) = (n : Int) := by rw [show 2 + (j : Int) = (n : Int) by omega]; exact wraps_i64 _ (by omega) (by omega)
      have wj : IntKind.i64.wrap (j : Int) = (j : Int) := wraps_i64 _ (by omega) (by omega)
      have wn2 : IntKind.i64.wrap (n : Int) = (n : Int) := wraps_i64 _ (by omega) (by omega)
      have hjI : 2 + (j : Int) = (n : Int) := by omega
      have hqI : (a : Int) / 16 = (j : Int) := by omega
      have hqT : Int.tdiv (a : Int) 16 = (j : Int) := by rw [Int.tdiv_eq_ediv_of_nonneg (by omega)]; exact hqI
      have HA := hide (And.intro ha hj)
      have ad1 := fun W : World => run_string_add_sum (P := Tryd.prog) (w := W) nonce (bq 4 fun i => byV n (3 - i)) (by rw [bq_size, hn]; omega)
      have HNJ := hide hnj
      clear HC1 HXS hO hB ha hj M3 MD hnj
      generalize bq 16 (fw (rk (at8 key)) (at8 (nonce ++ bq 4 fun i => byV n (3 - i))) 10) = bs at *
      generalize (nonce ++ bq 4 fun i => byV n (3 - i)) = X at HWI ad1
      generalize (bq 4 fun i => byV n (3 - i)) = b4 at HF4 ad1
      go_wp2_with fail
      go_region_held3 (fun V => V.cell? ⟨kb, 0, none⟩ = some (.slice (some ⟨gk, ok, none⟩) 176 ck) ∧ V.cell? ⟨kb, 1, none⟩ = some (.slice (some ⟨gt, 0, none⟩) 256 256)) (first | exact unhide S0 | exact unhide KQ _ b5 | exact unhide KQ _ (b5.trans (b6.mono b5.size))) (first
        | (go_at_call 35; with_reducible refine (unhide HF4 _).mono ?_; rintro e w5 ⟨rfl, b5⟩)
        | (go_at_call 50; with_reducible refine (unhide HWI _ ((unhide HMD).keep b5)).mono ?_; rintro e w6 ⟨rfl, b6⟩))
      have O6 := hide ((unhide O3).kept (b5.trans (b6.mono b5.size)))
      have B6 := hide ((unhide B3).trans (b5.trans (b6.mono b5.size) |>.mono (unhide B3).size))
      have hbz := unhide HXZ
      clear HWI HF4 O3 B3 b5 b6 ad1 S0 KQ HMD
      go_wp2_with fail
      go_loopw [7, 10] (fun v iv wx => ∃ i : Nat, i ≤ 16 ∧ a + i ≤ t.size ∧ iv = .int .i64 (i : Nat) ∧ Ob w.heap.size wx v (a + i) F ∧ Below w.heap.size w wx) (fun _ iv _ => 20 - (intOf iv).toNat)
      case atStart => exact ⟨0, by omega, by omega, rfl, unhide O6, unhide B6⟩
      case round =>
        obtain ⟨i, hi, hat, rfl, hO, hB⟩ := hrel
        clear O6 B6
        by_cases hc : i < 16 ∧ a + i < t.size
        · obtain ⟨hi16, hit⟩ := hc
          obtain ⟨p, hp⟩ : ∃ p : Nat, p = a + i := ⟨_, rfl⟩
          obtain ⟨hx1, hx2⟩ := unhide HX i hi16
          rw [← hp] at hO hx2 hit
          have e1 := xorI (at8 t p) (at8 bs i) (at8_lt t p) hx1
          rw [← hx2, at8_in t p hit, at8_in bs i (by omega)] at e1
          have hs5 : w.heap.size ≤ wr.drew.heap.size := by rw [World.size_drew]; exact hB.size
          obtain ⟨g8, cap8, w8, hrun, hO8, hB8⟩ := (hO.kept (Below.refl _ _).drew).push _ e1 (by omega) hs5
          rw [World.size_drew] at hrun
          have RUN := hide hrun
          have O8 := hide hO8
          have B8 := hide ((hB.drew).trans hB8)
          have HP := hide hp
          have w1 : IntKind.i64.wrap ((a : Int) + (i : Int)) = (p : Int) := by rw [show (a : Int) + (i : Int) = (p : Int) by omega]; exact wraps_i64 _ (by omega) (by omega)
          have n1 : (0 : Int) ≤ (p : Int) ∧ (p : Int) < (t.size : Int) := by omega
          have n2 : (0 : Int) ≤ (i : Int) ∧ (i : Int) < (bs.size : Int) := by omega
          have n3 : (a : Int) + (i : Int) < (t.size : Int) := by omega
          clear hrun hO8 hB8 hO hB hp hx1 hx2 e1
          go_wp2_with fail
          go_region_held3 (fun _ => True) (trivial) (first | (refine step_append_run rfl (.tmp 44) (.tmp 54) 22 rfl _ _ _ w8 rfl rfl (unhide RUN) ?_))
          all_goals
            clear RUN
            go_wp2
            exact ⟨⟨i + 1, by omega, by have := unhide HP; omega, by go_num, by rw [show a + (i + 1) = p + 1 by have := unhide HP; omega]; exact unhide O8, unhide B8⟩, by simp [intOf]; omega⟩
        · have O9 : Hid (Ob w.heap.size wr u7 (min (a + 16) t.size) F) := (show min (a + 16) t.size = a + i by omega) ▸ hO
          have B9 := hide hB
          clear hO hB
          by_cases h16 : i < 16
          · have n3 : ¬ (a : Int) + (i : Int) < (t.size : Int) := by omega
            go_wp2
            exact ⟨⟨j + 1, a + 16, by have := unhide HA; omega, by have := unhide HA; omega, by go_num, unhide O9, unhide B9⟩, by simp [intOf]; omega⟩
          · obtain rfl : i = 16 := by omega
            go_wp2
            exact ⟨⟨j + 1, a + 16, by have := unhide HA; omega, by have := unhide HA; omega, by go_num, unhide O9, unhide B9⟩, by simp [intOf]; omega⟩
    · have hj2 : min a t.size = t.size := by omega
      rw [hj2] at hO
      have hst := hO.string (fun i _ => unhide HL i)
      have B9 := hide hB
      clear hO hB
      go_wp2
      go_ret
      exact ⟨rfl, unhide B9⟩
end Go.Proofs.YtgjohakjknmngaaDoor
namespace Go.Proofs.YtgjohakjknmngaaDoor
open Go.ChangeShapes Go.WideShapes Go.ChangeAt Go.RowKit
set_option linter.unusedVariables false

/-- a text counted, a tag, a text sealed -/
def cnW (key nonce t : ByteArray) : ByteArray := bq t.size (cnF key nonce t)
theorem cnW_size (key nonce t : ByteArray) : (cnW key nonce t).size = t.size := bq_size _ _
def tgW (key nonce beside sealed : ByteArray) : ByteArray := bq 16 (tgB key nonce beside.size sealed.size (at8 beside) (at8 sealed))
theorem tgW_size (key nonce beside sealed : ByteArray) : (tgW key nonce beside sealed).size = 16 := bq_size _ _
def seW (key nonce beside t : ByteArray) : ByteArray := cnW key nonce t ++ tgW key nonce beside (cnW key nonce t)
theorem seW_size (key nonce beside t : ByteArray) : (seW key nonce beside t).size = t.size + 16 := by unfold seW; rw [ByteArray.size_append, cnW_size, tgW_size]
set_option maxRecDepth 100000 in
set_option maxHeartbeats 1000000 in
theorem specSeal (kb gk ok ck gt : Nat) (key nonce beside t : ByteArray) (hn : nonce.size = 12) (hb : beside.size ≤ 1500) (ht : t.size ≤ 1500) (w : World) (hM : SM w kb gk ok ck gt key) :
    Calls Tryd.prog 33 #[.pointer (some ⟨kb, 0, none⟩), .string nonce, .string beside, .string t] w fun e w' => e = .returned (.string (seW key nonce beside t)) ∧ Below w.heap.size w w' := by
  have hcs := cnW_size key nonce t
  have H1 : Hid (∀ W, SM W kb gk ok ck gt key → Calls Tryd.prog 51 #[.pointer (some ⟨kb, 0, none⟩), .string nonce, .string t] W fun e w' => e = .returned (.string (cnW key nonce t)) ∧ Below W.heap.size W w') := fun W h => specCount kb gk ok ck gt key nonce t hn ht W h
  have H2 : Hid (∀ W, SM W kb gk ok ck gt key → Calls Tryd.prog 52 #[.pointer (some ⟨kb, 0, none⟩), .string nonce, .string beside, .string (cnW key nonce t)] W fun e w' => e = .returned (.string (tgW key nonce beside (cnW key nonce t))) ∧ Below W.heap.size W w') := fun W h => specTag kb gk ok ck gt key nonce beside (cnW key nonce t) hn hb (by omega) W h
  have ad := fun W : World => run_string_add_sum (P := Tryd.prog) (w := W) (cnW key nonce t) (tgW key nonce beside (cnW key nonce t)) (by rw [tgW_size, cnW_size]; omega)
  have HE : Hid (cnW key nonce t ++ tgW key nonce beside (cnW key nonce t) = seW key nonce beside t) := rfl
  rw [unhide HE] at ad
  have HM := hide hM
  clear hM hcs
  generalize seW key nonce beside t = r at *
  generalize tgW key nonce beside (cnW key nonce t) = g at *
  generalize cnW key nonce t = c at *
  go_enter Tryd.func33, Tryd.ntmps33
  go_wp2_with (first
    | (go_at_call 51; refine (unhide H1 _ (unhide HM)).mono ?_; rintro e w1 ⟨rfl, b1⟩; have B1 := hide b1; clear b1)
    | (go_at_call 52; refine (unhide H2 _ ((unhide HM).keep (unhide B1))).mono ?_; rintro e w2 ⟨rfl, b2⟩; have B2 := hide b2; clear b2))
  go_ret
  exact ⟨rfl, (unhide B1).trans ((unhide B2).mono (unhide B1).size)⟩
end Go.Proofs.YtgjohakjknmngaaDoor
namespace Go.Proofs.YtgjohakjknmngaaDoor
open Go.ChangeShapes Go.WideShapes Go.ChangeAt Go.RowKit
set_option linter.unusedVariables false

set_option maxRecDepth 100000 in
set_option maxHeartbeats 1000000 in
theorem implST_ok (key nonce beside t : ByteArray) (h : key.size = 16 ∧ nonce.size = 12 ∧ beside.size ≤ 1500 ∧ t.size ≤ 1500) (w : World) :
    Calls Tryd.prog 24 #[.string key, .string nonce, .string beside, .string t] w fun e w' => e = .returned (.tuple #[.string (seW key nonce beside t), .bool true]) ∧ Below w.heap.size w w' := by
  obtain ⟨hk, hn, hb, ht⟩ := h
  have H1 := hide (fun W => newSeal_ok key nonce hk hn W)
  have HC : Hid (∀ W g c, W.cell? ⟨g, 0, none⟩ = some (.string beside) → W.cell? ⟨g, 1, none⟩ = some (.string t) → Calls Tryd.prog 15 #[.int .i64 1500, .slice (some ⟨g, 0, none⟩) 2 c] W fun e w' => e = .returned (.bool true) ∧ w' = W) := fun W g c hc hc1 => by
    have h1 := within_two beside t 1500 (by omega) (by omega) (by omega) W g c hc hc1
    rw [decide_eq_true ⟨hb, ht⟩] at h1
    exact h1
  go_enter Tryd.func24, Tryd.ntmps24
  go_wp2_with fail
  refine (unhide H1 _).mono ?_
  rintro e w1 ⟨kb, cb, hkb, hcb, rfl, hK, b1⟩
  have K1 := hide hK
  have B1 := hide b1
  have hl1 : kb < w1.heap.size := hK.st.lt
  have hl2 : cb < w1.heap.size := hK.ci.lt
  clear hK b1
  go_wp2_with fail
  refine (unhide HC _ _ _ (by simp) (by simp)).mono ?_
  rintro e w2 ⟨rfl, h9⟩
  rw [h9]
  clear h9 w2
  have al := (Below.refl w1.heap.size w1).alloc (Nat.le_refl _) (.cells #[.string beside, .string t] 9)
  have hz : (w1.alloc (.cells #[.string beside, .string t] 9)).heap.size = w1.heap.size + 1 := by simp
  generalize w1.alloc (.cells #[.string beside, .string t] 9) = W2 at al hz ⊢
  have K2 := hide ((unhide K1).keep al)
  have B2 := hide ((unhide B1).trans (al.mono (unhide B1).size))
  have hBs : w1.heap.size ≤ W2.heap.size := by omega
  clear al K1 B1 hz
  have K2d : SK W2.drew kb cb key nonce := ⟨(unhide K2).c0, (unhide K2).c1, (unhide K2).c2, (unhide K2).st.drew, (unhide K2).ci.drew⟩
  have S0 : Hid (W2.drew.cell? ⟨kb, 0, none⟩ = some (.pointer (some ⟨cb, 0, none⟩)) ∧ W2.drew.rangeAt kb 3 (us 16 (at8 nonce))) := ⟨K2d.c0, K2d.st.range⟩
  have KQ : Hid (∀ V, Below W2.drew.heap.size W2.drew V → V.cell? ⟨kb, 0, none⟩ = some (.pointer (some ⟨cb, 0, none⟩)) ∧ V.rangeAt kb 3 (us 16 (at8 nonce))) := fun V hV => ⟨(K2d.keep hV).c0, (K2d.keep hV).st.range⟩
  have HPL : Hid (∀ V, Calls Tryd.prog 43 #[.agg (us 16 (at8 nonce)).toArray, .int .i64 2] V fun e w' => e = .returned (.agg (us 16 (plB (at8 nonce) 2)).toArray) ∧ Below V.heap.size V w') := fun V => implPlus (at8 nonce) 2 (at8_lt nonce) (by omega) V
  have HCO : Hid (∀ V, Ar V cb 0 432 (ck (at8 key) 10) → Calls Tryd.prog 42 #[.pointer (some ⟨cb, 0, none⟩), .agg (us 16 (plB (at8 nonce) 2)).toArray, .string t] V fun e w' => e = .returned (.string (cnW key nonce t)) ∧ Below V.heap.size V w') := fun V h => implCounted cb (at8 key) (plB (at8 nonce) 2) t (at8_lt key) (plB_lt _ (at8_lt nonce) 2) (by omega) V h
  have KC : Hid (∀ V, Below W2.drew.heap.size W2.drew V → Ar V cb 0 432 (ck (at8 key) 10)) := fun V hV => (K2d.keep hV).ci
  have hu := Tryd.underlying85
  have hi16 : (Tryd.prog.info? 85).map (·.size) = some (us 16 (at8 nonce)).length := by rw [us_length]; exact info_bl
  have HK2 := hide K2d
  have B2d := hide (unhide B2).drew
  clear K2 B2 K2d
  generalize plB (at8 nonce) 2 = pp at *
  go_wp2_with fail
  go_region_held3 (fun V => V.cell? ⟨kb, 0, none⟩ = some (.pointer (some ⟨cb, 0, none⟩)) ∧ V.rangeAt kb 3 (us 16 (at8 nonce))) (first | exact unhide S0 | exact unhide KQ _ b5 | exact unhide KQ _ (b5.trans (b6.mono b5.size))) (first
    | (go_at_call 43; with_reducible refine (unhide HPL _).mono ?_; rintro e w5 ⟨rfl, b5⟩)
    | (go_at_call 42; with_reducible refine (unhide HCO _ (unhide KC _ b5)).mono ?_; rintro e w6 ⟨rfl, b6⟩))
  have B56 := b5.trans (b6.mono b5.size)
  have K6 := hide ((unhide HK2).keep B56)
  have B6 := hide ((unhide B2d).trans (B56.mono (unhide B2d).size))
  have hBs6 : w1.heap.size ≤ w6.heap.size := Nat.le_trans hBs (by have := B56.size; rw [World.size_drew] at this; exact this)
  have hcz := cnW_size key nonce t
  clear B56 b5 b6 HK2 B2d S0 KQ KC HPL HCO hi16 hBs
  have HE : Hid (cnW key nonce t ++ tgW key nonce beside (cnW key nonce t) = seW key nonce beside t) := rfl
  generalize cnW key nonce t = c at *
  go_wp2_with fail
  obtain ⟨cap3, W3, hcv, hbW, hsg, hsz⟩ := conv_sp w6 beside
  rw [hcv]
  have K3 := hide ((unhide K6).keep hbW)
  have S3 := hide hsg
  have B3 := hide ((unhide B6).trans (hbW.mono (unhide B6).size))
  have hlt3 : w6.heap.size < W3.heap.size := by omega
  clear hcv hsg hbW K6 B6 hsz
  go_wp2_with fail
  obtain ⟨cap4, W4, hcv, hbW, hsg, hsz4⟩ := conv_sp W3 c
  rw [hcv]
  have K4 := hide ((unhide K3).keep hbW)
  have S4 := hide ((unhide S3).below hbW (unhide S3).ar.lt)
  have T4 := hide hsg
  have B4 := hide ((unhide B3).trans (hbW.mono (unhide B3).size))
  clear hcv hsg hbW K3 B3 S3 hsz4
  have HTG := hide (implTag kb cb key nonce w6.heap.size 0 beside.size cap3 (at8 beside) W3.heap.size 0 c.size cap4 (at8 c) (at8_lt beside) (at8_lt c) hb (by omega) W4 (unhide K4) (unhide S4) (unhide T4) (by omega) w1.heap.size hl1 hl2 (by omega) (by omega))
  have HL := hide (tgB_lt key nonce beside.size c.size (at8 beside) (at8 c))
  have HR : Hid (tgW key nonce beside c = bq 16 (tgB key nonce beside.size c.size (at8 beside) (at8 c))) := rfl
  have hww : w.heap.size ≤ w1.heap.size := by omega
  have ad := fun W : World => run_string_add_sum (P := Tryd.prog) (w := W) c (bq 16 (tgB key nonce beside.size c.size (at8 beside) (at8 c))) (by rw [bq_size]; omega)
  rw [← unhide HR, unhide HE, unhide HR] at ad
  clear K4 S4 T4
  generalize W3.heap.size = gc at *
  generalize w6.heap.size = gb at *
  generalize tgB key nonce beside.size c.size (at8 beside) (at8 c) = r at *
  have HCZ := hide hcz
  clear hcz
  go_wp2_with fail
  refine (unhide HTG).mono ?_
  rintro e w7 ⟨rfl, b5, _⟩
  have B5 := hide ((unhide B4).trans (b5.mono hww))
  have hlr : (us 16 r).length = 16 := us_length _ _
  clear b5 B4 HTG
  go_wp2_with fail
  rw [(z16_new w7 85).cellsPut]
  obtain ⟨n1, n2, n3⟩ := fr16 w7 r
  generalize (w7.alloc (.cells #[.int .u8 0, .int .u8 0, .int .u8 0, .int .u8 0, .int .u8 0, .int .u8 0, .int .u8 0, .int .u8 0, .int .u8 0, .int .u8 0, .int .u8 0, .int .u8 0, .int .u8 0, .int .u8 0, .int .u8 0, .int .u8 0] 85)).setCells w7.heap.size 0 (us 16 r) = W8 at n1 n2 n3 ⊢
  have B8 := hide ((unhide B5).trans (n2.mono (unhide B5).size))
  have hst := ar_string n1 (fun i _ => unhide HL i) 16
  clear n1 n2 n3 hlr B5
  generalize bq 16 r = gg at *
  go_wp2
  go_ret2
  exact ⟨rfl, unhide B8⟩
set_option maxRecDepth 100000 in
set_option maxHeartbeats 1000000 in
theorem implST_no (key nonce beside t : ByteArray) (h : ¬ (key.size = 16 ∧ nonce.size = 12 ∧ beside.size ≤ 1500 ∧ t.size ≤ 1500)) (l0 : key.size ≤ 1048576) (l1 : nonce.size ≤ 1048576) (l2 : beside.size ≤ 1048576) (l3 : t.size ≤ 1048576) (w : World) :
    Calls Tryd.prog 24 #[.string key, .string nonce, .string beside, .string t] w fun e w' => e = .returned (.tuple #[.string ⟨#[]⟩, .bool false]) ∧ Below w.heap.size w w' := by
  by_cases hkn : key.size = 16 ∧ nonce.size = 12
  · have H1 := hide (fun W => newSeal_ok key nonce hkn.1 hkn.2 W)
    have HC : Hid (∀ W g c, W.cell? ⟨g, 0, none⟩ = some (.string beside) → W.cell? ⟨g, 1, none⟩ = some (.string t) → Calls Tryd.prog 15 #[.int .i64 1500, .slice (some ⟨g, 0, none⟩) 2 c] W fun e w' => e = .returned (.bool false) ∧ w' = W) := fun W g c hc hc1 => by
      have h1 := within_two beside t 1500 (by omega) l2 l3 W g c hc hc1
      rw [decide_eq_false (fun x => h ⟨hkn.1, hkn.2, x.1, x.2⟩)] at h1
      exact h1
    go_enter Tryd.func24, Tryd.ntmps24
    go_wp2_with fail
    refine (unhide H1 _).mono ?_
    rintro e w1 ⟨kb, cb, hkb, hcb, rfl, hK, b1⟩
    have B1 := hide b1
    clear hK b1
    go_wp2_with fail
    refine (unhide HC _ _ _ (by simp) (by simp)).mono ?_
    rintro e w2 ⟨rfl, h9⟩
    rw [h9]
    clear h9 w2
    have B2 := hide ((unhide B1).alloc (unhide B1).size (.cells #[.string beside, .string t] 9))
    clear B1
    go_wp2
    go_ret2
    exact ⟨rfl, unhide B2⟩
  · have H1 := hide (fun W => newSeal_no key nonce hkn l0 l1 W)
    go_enter Tryd.func24, Tryd.ntmps24
    go_wp2_with fail
    refine (unhide H1 _).mono ?_
    rintro e w1 ⟨rfl, b1⟩
    have B1 := hide b1
    clear b1
    go_wp2
    go_ret2
    exact ⟨rfl, unhide B1⟩
end Go.Proofs.YtgjohakjknmngaaDoor
namespace Go.Proofs.YtgjohakjknmngaaDoor
open Go.ChangeShapes Go.WideShapes Go.ChangeAt Go.RowKit
set_option linter.unusedVariables false
set_option maxRecDepth 100000

/-- byte k of a number, from the lowest on -/
def nB (n k : Nat) : Nat := n / 256 ^ k % 256
theorem nB_lt (n k : Nat) : nB n k < 256 := Nat.mod_lt _ (by omega)
theorem nB_int (n k : Nat) : ((nB n k : Nat) : Int) = (n : Int) / 2 ^ (8 * k) % 256 := by
  unfold nB
  rw [show (256 : Nat) ^ k = 2 ^ (8 * k) by rw [Nat.pow_mul]]
  simp
/-- the lowest m bytes of a number -/
def loW (n m : Nat) : ByteArray := bq m (fun i => nB n (m - 1 - i))
theorem loW_size (n m : Nat) : (loW n m).size = m := bq_size _ _
set_option maxHeartbeats 1000000 in
theorem specFx (n M : Nat) (hn : n < 4611686018427387904) (hM : M ≤ 8) (w : World) :
    Calls Tryd.prog 35 #[.int .i64 n, .int .i64 M] w fun e w' => e = .returned (.string (loW n M)) ∧ Below w.heap.size w w' := by
  unfold loW
  obtain ⟨i0, hi0, hz0, hz1, hz2⟩ := info_u8j
  have HL := hide (fun i => nB_lt n (M - 1 - i))
  go_enter Tryd.func35, Tryd.ntmps35
  go_wp2_with fail
  go_loopw [5, 6] (fun v kv wr => ∃ i : Nat, i ≤ M ∧ kv = .int .i64 ((M : Int) - 1 - (i : Int)) ∧ Ob w.heap.size wr v i (fun i => nB n (M - 1 - i)) ∧ Below w.heap.size w wr) (fun _ kv _ => (intOf kv + 1).toNat)
  case atStart => exact ⟨0, by omega, by go_num, Ob.nil _ _ _, Below.refl _ _⟩
  case round =>
    obtain ⟨i, hi, rfl, hO, hB⟩ := hrel
    by_cases hlt : i < M
    · obtain ⟨k, hk⟩ : ∃ k : Nat, k = M - 1 - i := ⟨_, rfl⟩
      have hkI : (M : Int) - 1 - (i : Int) = (k : Int) := by omega
      rw [hkI]
      have hk4 : k < 8 := by omega
      have hbs := hB.size
      have eI := nB_int n k
      have al := (Below.refl wr.heap.size wr).alloc (Nat.le_refl _) (.cells #[.int .u8 ((n : Int) / 2 ^ (8 * k) % 256)] 5)
      have hN : Ar (wr.alloc (.cells #[.int .u8 ((n : Int) / 2 ^ (8 * k) % 256)] 5)) wr.heap.size 0 1 (fun _ => nB n k) := by
        have h9 := Ar.new wr 1 (fun _ => nB n k) 5
        have e9 : (us 1 (fun _ => nB n k)).toArray = #[.int .u8 ((n : Int) / 2 ^ (8 * k) % 256)] := by
          rw [us_def]
          show #[Value.int .u8 ((nB n k : Nat) : Int)] = _
          rw [eI]
        rw [e9] at h9
        exact h9
      have O3 := hide (hO.kept al)
      have B3 := hide (hB.trans (al.mono hbs))
      have hnew : Hid (∀ j u, (us 1 (fun _ => nB n k))[j]? = some u → (wr.alloc (.cells #[.int .u8 ((n : Int) / 2 ^ (8 * k) % 256)] 5)).cell? ((⟨wr.heap.size, 0, none⟩ : Addr).add j) = some u) := fun j u hu => by rw [Addr.add_mid]; exact hN.range j u hu
      have hone := hide (us_oneL 1 (fun _ => nB n k))
      have hz3 : (wr.alloc (.cells #[.int .u8 ((n : Int) / 2 ^ (8 * k) % 256)] 5)).heap.size = wr.heap.size + 1 := by simp
      have HK := hide (And.intro hk hkI)
      clear al hN hO hB hk hkI eI
      go_wp2_with (at_builtin; refine wpList_append_lies _ rfl _ _ 22 rfl w.heap.size 5 i0 (.int .u8 0) 1 1 Tryd.underlying22 hi0 hz0 hz1 hz2 rfl (by decide) _ _ _ rfl (unhide O3) ⟨wr.heap.size, 0, none⟩ 1 1 (us 1 (fun _ => nB n k)) rfl ?c0 (unhide hnew) (unhide hone) (by omega) ?c3 ?c4 ?c5 (wr.heap.size + 1) ?c6 ?_)
      case c0 => rw [us_length]
      case c3 => unfold maxLen; omega
      case c4 => omega
      case c5 => omega
      case c6 => exact hz3
      intro g8 cap8 w8 hown hgrow hat hlt8
      rw [show us 1 (fun _ => nB n k) = us 1 (fun j => (fun i => nB n (M - 1 - i)) (i + j)) from us_congr fun j hj => by obtain rfl : j = 0 := (by omega); rw [(unhide HK).1]; rfl] at hown
      have O8 := hide (Ob.grow hown)
      have b8 := Ob.below (unhide O3) hgrow (by rw [hz3]; omega)
      have B8 := hide ((unhide B3).trans b8)
      clear hown hgrow hat b8 O3 B3 hnew hone
      go_wp2
      exact ⟨⟨i + 1, by omega, by have := (unhide HK).2; congr 1; omega, unhide O8, unhide B8⟩, by simp [intOf]⟩
    · obtain rfl : i = M := by omega
      have hst := hO.string (fun i _ => unhide HL i)
      have B9 := hide hB
      clear hO hB
      go_wp2
      go_ret
      exact ⟨rfl, unhide B9⟩

set_option maxHeartbeats 1000000 in
theorem implLow (n M : Nat) (hn : n < 4611686018427387904) (hM : M ≤ 8) (w : World) :
    Calls Tryd.prog 25 #[.int .i64 n, .int .i64 M] w fun e w' => e = .returned (.string (loW n M)) ∧ Below w.heap.size w w' := by
  unfold loW
  have HL : Hid (∀ i, i < M → (fun i => nB n (M - 1 - i)) i < 256) := fun i _ => nB_lt n (M - 1 - i)
  have E : ∀ i, (fun i => nB n (M - 1 - i)) i = nB n (M - 1 - i) := fun i => rfl
  generalize (fun i => nB n (M - 1 - i)) = r at E HL ⊢
  have HE := hide E
  clear E
  go_enter Tryd.func25, Tryd.ntmps25
  go_wp2_with fail
  have hmk : (Instr.makeSlice 22 (.int .i64 M) (.int .i64 M)).run Tryd.prog w = _ := mk_bytes M (by omega) w
  rw [hmk]
  go_wp2_with fail
  have A0 : Ar (w.alloc (.cells (us M fun _ => 0).toArray 5)) w.heap.size 0 M (fun _ => 0) := Ar.new w M (fun _ => 0) 5
  have B0 : Below w.heap.size w (w.alloc (.cells (us M fun _ => 0).toArray 5)) := (Below.refl _ _).alloc (Nat.le_refl _) _
  generalize w.alloc (.cells (us M fun _ => 0).toArray 5) = w0 at A0 B0 ⊢
  have HA := hide A0
  have HB := hide B0
  clear A0 B0 hmk
  go_loopw [11] (fun iv wr => ∃ i : Nat, i ≤ M ∧ iv = .int .i64 i ∧ Ar wr w.heap.size 0 M (stp r (fun _ => 0) i) ∧ Below w.heap.size w wr) (fun iv _ => M - (intOf iv).toNat)
  case atStart => exact ⟨0, by omega, rfl, (unhide HA).stepNone, unhide HB⟩
  case round =>
    obtain ⟨i, hi, rfl, a1, b1⟩ := hrel
    have HA1 := hide a1
    have HB1 := hide b1
    by_cases hlt : i < M
    · have c0 := a1.c0 i hlt
      have f0 := a1.f0 i hlt
      obtain ⟨k, hk⟩ : ∃ k : Nat, k = M - 1 - i := ⟨_, rfl⟩
      have hkI : (M : Int) - 1 - (i : Int) = (k : Int) := by omega
      have hk8 : k < 8 := by omega
      have e2 := hide (unhide HE i)
      rw [← hk] at e2
      have eI := hide (nB_int n k)
      clear a1 b1 hk
      generalize stp r (fun _ => 0) i i = z at *
      have n1 : (0 : Int) ≤ (i : Int) ∧ (i : Int) < M := by omega
      go_wp2
      rw [← unhide eI]
      exact ⟨⟨i + 1, by omega, by go_num, (unhide HA1).step hlt (unhide e2), (unhide HB1).setCell (by simp) _⟩, by simp [intOf]; omega⟩
    · have e : i = M := by omega
      subst e
      have hst := ar_string (a1.stepEnd) (unhide HL) i
      clear a1 b1
      go_wp2
      go_ret
      exact ⟨rfl, unhide HB1⟩
end Go.Proofs.YtgjohakjknmngaaDoor
namespace Go.Proofs.YtgjohakjknmngaaDoor
open Go.ChangeShapes Go.WideShapes Go.ChangeAt Go.RowKit
set_option linter.unusedVariables false
set_option maxRecDepth 100000

/-- the key and the nonce that RFC 9001 tells, and a tag -/
def rtK : ByteArray := ⟨#[190, 12, 105, 11, 159, 102, 87, 90, 29, 118, 107, 84, 227, 104, 200, 78]⟩
def rtN : ByteArray := ⟨#[70, 21, 153, 211, 93, 99, 43, 242, 35, 152, 37, 187]⟩
def rtX (o p : ByteArray) : ByteArray := loW o.size 1 ++ o ++ p
theorem rtX_size (o p : ByteArray) : (rtX o p).size = 1 + o.size + p.size := by unfold rtX; rw [ByteArray.size_append, ByteArray.size_append, loW_size]
def rtW (o p : ByteArray) : ByteArray := seW rtK rtN (rtX o p) ⟨#[]⟩
theorem rtW_size (o p : ByteArray) : (rtW o p).size = 16 := by unfold rtW; rw [seW_size]; rfl

set_option maxHeartbeats 1000000 in
theorem implRT_ok (o p : ByteArray) (ho : o.size ≤ 20) (hp : p.size ≤ 1000) (w : World) :
    Calls Tryd.prog 9 #[.string o, .string p] w fun e w' => e = .returned (.tuple #[.string (rtW o p), .bool true]) ∧ Below w.heap.size w w' := by
  have HW := hide (within_one o 20 (by omega) (by omega))
  rw [decide_eq_true ho] at HW
  have HV := hide (within_one p 1000 (by omega) (by omega))
  rw [decide_eq_true hp] at HV
  have HL : Hid (∀ W, Calls Tryd.prog 25 #[.int .i64 o.size, .int .i64 1] W fun e w' => e = .returned (.string (loW o.size 1)) ∧ Below W.heap.size W w') := implLow o.size 1 (by omega) (by omega)
  have hx := rtX_size o p
  have HS : Hid (∀ W, Calls Tryd.prog 24 #[.string ⟨#[190, 12, 105, 11, 159, 102, 87, 90, 29, 118, 107, 84, 227, 104, 200, 78]⟩, .string ⟨#[70, 21, 153, 211, 93, 99, 43, 242, 35, 152, 37, 187]⟩, .string (rtX o p), .string ⟨#[]⟩] W fun e w' => e = .returned (.tuple #[.string (rtW o p), .bool true]) ∧ Below W.heap.size W w') := implST_ok rtK rtN (rtX o p) ⟨#[]⟩ ⟨rfl, rfl, by omega, by decide⟩
  have hls := loW_size o.size 1
  have ad1 := fun W : World => run_string_add_sum (P := Tryd.prog) (w := W) (loW o.size 1) o (by omega)
  have ad2 := fun W : World => run_string_add_sum (P := Tryd.prog) (w := W) (loW o.size 1 ++ o) p (by rw [ByteArray.size_append]; omega)
  have HE : Hid (loW o.size 1 ++ o ++ p = rtX o p) := rfl
  rw [unhide HE] at ad2
  generalize rtW o p = r at *
  generalize rtX o p = x at *
  generalize loW o.size 1 ++ o = y at *
  generalize loW o.size 1 = l at *
  clear HE hls hx
  go_enter Tryd.func9, Tryd.ntmps9
  go_wp2_with fail
  refine (unhide HW _ _ _ (by simp)).mono ?_
  rintro e w1 ⟨rfl, h9⟩
  rw [h9]
  clear h9 w1
  go_wp2_with fail
  refine (unhide HV _ _ _ (by simp)).mono ?_
  rintro e w1 ⟨rfl, h9⟩
  rw [h9]
  clear h9 w1
  have B0 := hide (((Below.refl w.heap.size w).alloc (Nat.le_refl _) (.cells #[.string o] 9)).alloc (by simp) (.cells #[.string p] 9))
  generalize (w.alloc (.cells #[.string o] 9)).alloc (.cells #[.string p] 9) = w1 at *
  go_wp2_with fail
  refine (unhide HL _).mono ?_
  rintro e w2 ⟨rfl, b2⟩
  have B2 := hide ((unhide B0).trans (b2.mono (unhide B0).size))
  clear b2 B0
  go_wp2_with fail
  refine (unhide HS _).mono ?_
  rintro e w3 ⟨rfl, b3⟩
  have B3 := hide ((unhide B2).trans (b3.mono (unhide B2).size))
  clear b3 B2
  go_wp2
  go_ret2
  exact ⟨rfl, unhide B3⟩
theorem implRT_no (o p : ByteArray) (h : ¬ (o.size ≤ 20 ∧ p.size ≤ 1000)) (l0 : o.size ≤ 1048576) (l1 : p.size ≤ 1048576) (w : World) :
    Calls Tryd.prog 9 #[.string o, .string p] w fun e w' => e = .returned (.tuple #[.string ⟨#[]⟩, .bool false]) ∧ Below w.heap.size w w' := by
  have HW := hide (within_one o 20 (by omega) l0)
  by_cases ho : o.size ≤ 20
  case neg =>
    rw [decide_eq_false ho] at HW
    go_enter Tryd.func9, Tryd.ntmps9
    go_wp2_with fail
    refine (unhide HW _ _ _ (by simp)).mono ?_
    rintro e w1 ⟨rfl, h9⟩
    rw [h9]
    clear h9 w1
    go_wp2
    go_ret2
    exact ⟨rfl, (Below.refl _ _).alloc (Nat.le_refl _) _⟩
  rw [decide_eq_true ho] at HW
  have HV := hide (within_one p 1000 (by omega) l1)
  rw [decide_eq_false (fun x => h ⟨ho, x⟩)] at HV
  go_enter Tryd.func9, Tryd.ntmps9
  go_wp2_with fail
  refine (unhide HW _ _ _ (by simp)).mono ?_
  rintro e w1 ⟨rfl, h9⟩
  rw [h9]
  clear h9 w1
  go_wp2_with fail
  refine (unhide HV _ _ _ (by simp)).mono ?_
  rintro e w1 ⟨rfl, h9⟩
  rw [h9]
  clear h9 w1
  go_wp2
  go_ret2
  exact ⟨rfl, ((Below.refl _ _).alloc (Nat.le_refl _) _).alloc (by simp) _⟩
theorem specId1 (o : ByteArray) (ho : o.size ≤ 1000) (w : World) :
    Calls Tryd.prog 34 #[.string o] w fun e w' => e = .returned (.string (loW o.size 1 ++ o)) ∧ Below w.heap.size w w' := by
  have HL : Hid (∀ W, Calls Tryd.prog 35 #[.int .i64 o.size, .int .i64 1] W fun e w' => e = .returned (.string (loW o.size 1)) ∧ Below W.heap.size W w') := specFx o.size 1 (by omega) (by omega)
  have hls := loW_size o.size 1
  have ad1 := fun W : World => run_string_add_sum (P := Tryd.prog) (w := W) (loW o.size 1) o (by omega)
  generalize loW o.size 1 ++ o = y at *
  generalize loW o.size 1 = l at *
  go_enter Tryd.func34, Tryd.ntmps34
  go_wp2_with fail
  refine (unhide HL _).mono ?_
  rintro e w2 ⟨rfl, b2⟩
  have B2 := hide b2
  clear b2
  go_wp2
  go_ret
  exact ⟨rfl, unhide B2⟩
set_option maxHeartbeats 1000000 in
theorem specTag10 (o p : ByteArray) (ho : o.size ≤ 20) (hp : p.size ≤ 1000) (w : World) :
    Calls Tryd.prog 19 #[.string o, .string p] w fun e w' => e = .returned (.string (rtW o p)) ∧ Below w.heap.size w w' := by
  have H1 : Hid (∀ W, Calls Tryd.prog 32 #[.string ⟨#[190, 12, 105, 11, 159, 102, 87, 90, 29, 118, 107, 84, 227, 104, 200, 78]⟩] W fun e w' => ∃ kb gk ok ck gt, e = .returned (.pointer (some ⟨kb, 0, none⟩)) ∧ SM w' kb gk ok ck gt rtK ∧ Below W.heap.size W w') := fun W => specKey5 rtK rfl W
  have HI := hide (specId1 o (by omega))
  have hx := rtX_size o p
  have H2 : Hid (∀ kb gk ok ck gt W, SM W kb gk ok ck gt rtK → Calls Tryd.prog 33 #[.pointer (some ⟨kb, 0, none⟩), .string ⟨#[70, 21, 153, 211, 93, 99, 43, 242, 35, 152, 37, 187]⟩, .string (rtX o p), .string ⟨#[]⟩] W fun e w' => e = .returned (.string (rtW o p)) ∧ Below W.heap.size W w') := fun kb gk ok ck gt W h => specSeal kb gk ok ck gt rtK rtN (rtX o p) ⟨#[]⟩ rfl (by omega) (by decide) W h
  have hls := loW_size o.size 1
  have ad2 := fun W : World => run_string_add_sum (P := Tryd.prog) (w := W) (loW o.size 1 ++ o) p (by rw [ByteArray.size_append]; omega)
  have HE : Hid (loW o.size 1 ++ o ++ p = rtX o p) := rfl
  rw [unhide HE] at ad2
  generalize rtW o p = r at *
  generalize rtX o p = x at *
  generalize loW o.size 1 ++ o = y at *
  generalize rtK = rk at *
  clear HE hls hx
  go_enter Tryd.func19, Tryd.ntmps19
  go_wp2_with fail
  refine (unhide H1 _).mono ?_
  rintro e w1 ⟨kb, gk, ok, ck, gt, rfl, m1, b1⟩
  have M1 := hide m1
  have B1 := hide b1
  clear m1 b1
  go_wp2_with fail
  refine (unhide HI _).mono ?_
  rintro e w2 ⟨rfl, b2⟩
  have M2 := hide ((unhide M1).keep b2)
  have B2 := hide ((unhide B1).trans (b2.mono (unhide B1).size))
  clear b2 B1 M1
  go_wp2_with fail
  refine (unhide H2 _ _ _ _ _ _ (unhide M2)).mono ?_
  rintro e w3 ⟨rfl, b3⟩
  have B3 := hide ((unhide B2).trans (b3.mono (unhide B2).size))
  clear b3 B2 M2
  go_wp2
  go_ret
  exact ⟨rfl, unhide B3⟩
end Go.Proofs.YtgjohakjknmngaaDoor
