/-
  Contracts: a key's two states and the keyed hash, the program's.
-/
import Derived.Test.YtlphaciboaicgaaDoorSkm
namespace Go.Proofs.YtlphaciboaicgaaDoor
open Go.ChangeShapes Go.WideShapes Go.ChangeAt Go.RowKit
set_option linter.unusedVariables false

/-- a key's two states, side by side -/
def ky2 (a b : Nat → Nat) (i : Nat) : Nat := if i < 8 then a i else b (i - 8)
theorem zer16 : (#[Value.int .u32 0, Value.int .u32 0, Value.int .u32 0, Value.int .u32 0, Value.int .u32 0, Value.int .u32 0, Value.int .u32 0, Value.int .u32 0, Value.int .u32 0, Value.int .u32 0, Value.int .u32 0, Value.int .u32 0, Value.int .u32 0, Value.int .u32 0, Value.int .u32 0, Value.int .u32 0] : Array Value) = (uw 16 fun _ => 0).toArray := by rw [uw_def]; rfl
theorem fold1 (f : Nat → Nat) : List.foldl (fun cs (x : Value × Nat) => Array.setIfInBounds cs x.2 x.1) (#[Value.int .u32 0, Value.int .u32 0, Value.int .u32 0, Value.int .u32 0, Value.int .u32 0, Value.int .u32 0, Value.int .u32 0, Value.int .u32 0, Value.int .u32 0, Value.int .u32 0, Value.int .u32 0, Value.int .u32 0, Value.int .u32 0, Value.int .u32 0, Value.int .u32 0, Value.int .u32 0] : Array Value) (uw 8 f).zipIdx = (uw 16 (ky2 f fun _ => 0)).toArray := by
  have h := fold_uw 16 0 f (fun _ => 0) 8 (by omega)
  simp only [Nat.zero_add] at h
  rw [zer16, h]
  exact congrArg List.toArray (uw_congr fun i hi => by
    unfold ky2
    by_cases e : i < 8
    · rw [if_pos ⟨Nat.zero_le _, e⟩, if_pos e]; rfl
    · rw [if_neg (by omega), if_neg e])
theorem fold2 (f g : Nat → Nat) : List.foldl (fun cs (x : Value × Nat) => Array.setIfInBounds cs (8 + x.2) x.1) (uw 16 (ky2 f fun _ => 0)).toArray (uw 8 g).zipIdx = (uw 16 (ky2 f g)).toArray := by
  rw [fold_uw 16 8 g _ 8 (by omega)]
  exact congrArg List.toArray (uw_congr fun i hi => by
    unfold ky2
    by_cases e : i < 8
    · rw [if_neg (by omega), if_pos e, if_pos e]
    · rw [if_pos (by omega), if_neg e])
theorem info_hk : (Tryd.prog.info? 54).map (·.size) = some 16 := by kernel_rfl
set_option maxRecDepth 100000 in
set_option maxHeartbeats 1000000 in
theorem implKey_short (key : ByteArray) (hk : key.size ≤ 64) (w : World) (hT : Rt w) :
    Calls Tryd.prog 25 #[.string key] w fun e w' => e = .returned (.agg (uw 16 (ky2 (bhW HW (kyW key 54)) (bhW HW (kyW key 92)))).toArray) ∧ Below w.heap.size w w' := by
  have HT := hide hT
  clear hT
  have HF : Hid (∀ W, Calls Tryd.prog 30 #[] W fun e w' => e = .returned (.agg (uw 8 HW).toArray) ∧ Below W.heap.size W w') := fun W => implFirst W
  have HM1 : Hid (∀ W, Calls Tryd.prog 32 #[.string key, .int .u8 54] W fun e w' => e = .returned (.string (kyW key 54)) ∧ Below W.heap.size W w') := fun W => implMarked key 54 hk (by omega) W
  have HM2 : Hid (∀ W, Calls Tryd.prog 32 #[.string key, .int .u8 92] W fun e w' => e = .returned (.string (kyW key 92)) ∧ Below W.heap.size W w') := fun W => implMarked key 92 hk (by omega) W
  have HB1 := hide (fun W (hT : Rt W) => implBehind HW (kyW key 54) HW_lt (kyW_size _ _) W hT)
  have HB2 := hide (fun W (hT : Rt W) => implBehind HW (kyW key 92) HW_lt (kyW_size _ _) W hT)
  generalize kyW key 54 = m1 at *
  generalize kyW key 92 = m2 at *
  generalize bhW HW m1 = f1 at *
  generalize bhW HW m2 = f2 at *
  generalize HW = f0 at *
  go_enter Tryd.func25, Tryd.ntmps25
  go_wp2_with fail
  rw [zer16]
  have h0 := Aw.new w 16 (fun _ => 0) 54
  have hB := (Below.refl w.heap.size w).alloc (Nat.le_refl _) (.cells (uw 16 (fun _ => 0)).toArray 54)
  generalize w.alloc (.cells (uw 16 (fun _ => 0)).toArray 54) = W at h0 hB ⊢
  have A0 := hide h0
  have B0 := hide hB
  have T0 := hide ((unhide HT).kept hB)
  clear h0 hB HT
  refine (unhide HF _).mono ?_
  rintro e w1 ⟨rfl, b1⟩
  have A1 := hide ((unhide A0).below b1 (unhide A0).lt)
  have B1 := hide ((unhide B0).trans (b1.mono (unhide B0).size))
  have T1 := hide ((unhide T0).kept b1)
  clear b1 A0 B0 T0
  go_wp2_with fail
  refine (unhide HM1 _).mono ?_
  rintro e w2 ⟨rfl, b2⟩
  have A2 := hide ((unhide A1).below b2 (unhide A1).lt)
  have B2 := hide ((unhide B1).trans (b2.mono (unhide B1).size))
  have T2 := hide ((unhide T1).kept b2)
  clear b2 A1 B1 T1
  go_wp2_with fail
  refine (unhide HB1 _ (unhide T2)).mono ?_
  rintro e w3 ⟨rfl, b3⟩
  have A3 := hide ((unhide A2).below b3 (unhide A2).lt)
  have B3 := hide ((unhide B2).trans (b3.mono (unhide B2).size))
  have T3 := hide ((unhide T2).kept b3)
  clear b3 A2 B2 T2
  go_wp2_with fail
  refine (unhide HF _).mono ?_
  rintro e w4 ⟨rfl, b4⟩
  have A4 := hide ((unhide A3).below b4 (unhide A3).lt)
  have B4 := hide ((unhide B3).trans (b4.mono (unhide B3).size))
  have T4 := hide ((unhide T3).kept b4)
  clear b4 A3 B3 T3
  go_wp2_with fail
  refine (unhide HM2 _).mono ?_
  rintro e w5 ⟨rfl, b5⟩
  have A5 := hide ((unhide A4).below b5 (unhide A4).lt)
  have B5 := hide ((unhide B4).trans (b5.mono (unhide B4).size))
  have T5 := hide ((unhide T4).kept b5)
  clear b5 A4 B4 T4
  go_wp2_with fail
  refine (unhide HB2 _ (unhide T5)).mono ?_
  rintro e w6 ⟨rfl, b6⟩
  have A6 := hide ((unhide A5).below b6 (unhide A5).lt)
  have B6 := hide ((unhide B5).trans (b6.mono (unhide B5).size))
  have T6 := hide ((unhide T5).kept b6)
  clear b6 A5 B5 T5
  have hl1 := uw_length 8 f1
  have hl2 := uw_length 8 f2
  have fo1 := fold1 f1
  have fo2 := fold2 f1 f2
  have hl3 := uw_size 16 (ky2 f1 f2)
  have hl4 := uw_size 16 (ky2 f1 fun _ => 0)
  have hl5 := uw_length 16 (ky2 f1 f2)
  generalize uw 16 (ky2 f1 fun _ => 0) = y1 at *
  go_wp2_with fail
  rw [(unhide A6).cellsPut]
  have h1 := hide ((unhide A6).puts (g := ky2 f1 f2))
  have h2 := hide (Go.Proofs.YtlphaciboaicgaaDoor.below_setCells (b := w.heap.size) (Nat.le_refl _) (uw 16 (ky2 f1 f2)) 0 _ (unhide B6))
  generalize w6.setCells w.heap.size 0 (uw 16 (ky2 f1 f2)) = W9 at h1 h2 ⊢
  clear fo1 fo2 hl1 hl2 hl3 hl4 hl5 A6 B6 T6
  go_wp2_with fail
  refine ret_arr_w 2 w.heap.size 16 54 _ (ky2 f1 f2) ?r1 ?r2 ?r3 (unhide h1) Tryd.underlying54 rfl info_hk ?_
  case r1 => rfl
  case r2 => rfl
  case r3 => rfl
  exact ⟨rfl, unhide h2⟩
set_option maxRecDepth 100000 in
set_option maxHeartbeats 1000000 in
theorem implKey_long (key : ByteArray) (hk : ¬ key.size ≤ 64 ∧ key.size ≤ 10000) (w : World) (hT : Rt w) :
    Calls Tryd.prog 25 #[.string key] w fun e w' => e = .returned (.agg (uw 16 (ky2 (bhW HW (kyW (shW key) 54)) (bhW HW (kyW (shW key) 92)))).toArray) ∧ Below w.heap.size w w' := by
  have HT := hide hT
  clear hT
  obtain ⟨hk0, hk1⟩ := hk
  have HH : Hid (∀ W, Rt W → Calls Tryd.prog 29 #[.string key] W fun e w' => e = .returned (.string (shW key)) ∧ Below W.heap.size W w') := fun W h => implHashOf key hk1 W h
  have hk : (shW key).size ≤ 64 := by rw [shW_size]; omega
  generalize shW key = k2 at *
  have HF : Hid (∀ W, Calls Tryd.prog 30 #[] W fun e w' => e = .returned (.agg (uw 8 HW).toArray) ∧ Below W.heap.size W w') := fun W => implFirst W
  have HM1 : Hid (∀ W, Calls Tryd.prog 32 #[.string k2, .int .u8 54] W fun e w' => e = .returned (.string (kyW k2 54)) ∧ Below W.heap.size W w') := fun W => implMarked k2 54 hk (by omega) W
  have HM2 : Hid (∀ W, Calls Tryd.prog 32 #[.string k2, .int .u8 92] W fun e w' => e = .returned (.string (kyW k2 92)) ∧ Below W.heap.size W w') := fun W => implMarked k2 92 hk (by omega) W
  have HB1 := hide (fun W (hT : Rt W) => implBehind HW (kyW k2 54) HW_lt (kyW_size _ _) W hT)
  have HB2 := hide (fun W (hT : Rt W) => implBehind HW (kyW k2 92) HW_lt (kyW_size _ _) W hT)
  generalize kyW k2 54 = m1 at *
  generalize kyW k2 92 = m2 at *
  generalize bhW HW m1 = f1 at *
  generalize bhW HW m2 = f2 at *
  generalize HW = f0 at *
  go_enter Tryd.func25, Tryd.ntmps25
  go_wp2_with fail
  rw [zer16]
  have h0 := Aw.new w 16 (fun _ => 0) 54
  have hB := (Below.refl w.heap.size w).alloc (Nat.le_refl _) (.cells (uw 16 (fun _ => 0)).toArray 54)
  generalize w.alloc (.cells (uw 16 (fun _ => 0)).toArray 54) = W at h0 hB ⊢
  have A0 := hide h0
  have B0 := hide hB
  have T0 := hide ((unhide HT).kept hB)
  clear h0 hB HT
  refine (unhide HH _ (unhide T0)).mono ?_
  rintro e w1 ⟨rfl, b1⟩
  have A1 := hide ((unhide A0).below b1 (unhide A0).lt)
  have B1 := hide ((unhide B0).trans (b1.mono (unhide B0).size))
  have T1 := hide ((unhide T0).kept b1)
  clear b1 A0 B0 T0
  go_wp2_with fail
  refine (unhide HF _).mono ?_
  rintro e w2 ⟨rfl, b2⟩
  have A2 := hide ((unhide A1).below b2 (unhide A1).lt)
  have B2 := hide ((unhide B1).trans (b2.mono (unhide B1).size))
  have T2 := hide ((unhide T1).kept b2)
  clear b2 A1 B1 T1
  go_wp2_with fail
  refine (unhide HM1 _).mono ?_
  rintro e w3 ⟨rfl, b3⟩
  have A3 := hide ((unhide A2).below b3 (unhide A2).lt)
  have B3 := hide ((unhide B2).trans (b3.mono (unhide B2).size))
  have T3 := hide ((unhide T2).kept b3)
  clear b3 A2 B2 T2
  go_wp2_with fail
  refine (unhide HB1 _ (unhide T3)).mono ?_
  rintro e w4 ⟨rfl, b4⟩
  have A4 := hide ((unhide A3).below b4 (unhide A3).lt)
  have B4 := hide ((unhide B3).trans (b4.mono (unhide B3).size))
  have T4 := hide ((unhide T3).kept b4)
  clear b4 A3 B3 T3
  go_wp2_with fail
  refine (unhide HF _).mono ?_
  rintro e w5 ⟨rfl, b5⟩
  have A5 := hide ((unhide A4).below b5 (unhide A4).lt)
  have B5 := hide ((unhide B4).trans (b5.mono (unhide B4).size))
  have T5 := hide ((unhide T4).kept b5)
  clear b5 A4 B4 T4
  go_wp2_with fail
  refine (unhide HM2 _).mono ?_
  rintro e w6 ⟨rfl, b6⟩
  have A6 := hide ((unhide A5).below b6 (unhide A5).lt)
  have B6 := hide ((unhide B5).trans (b6.mono (unhide B5).size))
  have T6 := hide ((unhide T5).kept b6)
  clear b6 A5 B5 T5
  go_wp2_with fail
  refine (unhide HB2 _ (unhide T6)).mono ?_
  rintro e w7 ⟨rfl, b7⟩
  have A7 := hide ((unhide A6).below b7 (unhide A6).lt)
  have B7 := hide ((unhide B6).trans (b7.mono (unhide B6).size))
  have T7 := hide ((unhide T6).kept b7)
  clear b7 A6 B6 T6
  have hl1 := uw_length 8 f1
  have hl2 := uw_length 8 f2
  have fo1 := fold1 f1
  have fo2 := fold2 f1 f2
  have hl3 := uw_size 16 (ky2 f1 f2)
  have hl4 := uw_size 16 (ky2 f1 fun _ => 0)
  have hl5 := uw_length 16 (ky2 f1 f2)
  generalize uw 16 (ky2 f1 fun _ => 0) = y1 at *
  go_wp2_with fail
  rw [(unhide A7).cellsPut]
  have h1 := hide ((unhide A7).puts (g := ky2 f1 f2))
  have h2 := hide (Go.Proofs.YtlphaciboaicgaaDoor.below_setCells (b := w.heap.size) (Nat.le_refl _) (uw 16 (ky2 f1 f2)) 0 _ (unhide B7))
  generalize w7.setCells w.heap.size 0 (uw 16 (ky2 f1 f2)) = W9 at h1 h2 ⊢
  clear fo1 fo2 hl1 hl2 hl3 hl4 hl5 A7 B7 T7
  go_wp2_with fail
  refine ret_arr_w 2 w.heap.size 16 54 _ (ky2 f1 f2) ?r1 ?r2 ?r3 (unhide h1) Tryd.underlying54 rfl info_hk ?_
  case r1 => rfl
  case r2 => rfl
  case r3 => rfl
  exact ⟨rfl, unhide h2⟩
theorem implKey (key : ByteArray) (hk : key.size ≤ 10000) (w : World) (hT : Rt w) :
    Calls Tryd.prog 25 #[.string key] w fun e w' => e = .returned (.agg (uw 16 (ky2 (bhW HW (kyW (k64 key) 54)) (bhW HW (kyW (k64 key) 92)))).toArray) ∧ Below w.heap.size w w' := by
  unfold k64
  by_cases h : key.size ≤ 64
  · rw [if_pos h]
    exact implKey_short key h w hT
  · rw [if_neg h]
    exact implKey_long key ⟨h, hk⟩ w hT
set_option maxRecDepth 100000 in
set_option maxHeartbeats 1000000 in
theorem implKeyed (a b : Nat → Nat) (t : ByteArray) (ha : ∀ i, a i < 4294967296) (hb : ∀ i, b i < 4294967296) (ht : t.size ≤ 10000) (w : World) (hT : Rt w) :
    Calls Tryd.prog 26 #[.agg (uw 16 (ky2 a b)).toArray, .string t] w fun e w' => e = .returned (.string (enW b (enW a t))) ∧ Below w.heap.size w w' := by
  have HT := hide hT
  clear hT
  have H1 : Hid (∀ W, Rt W → Calls Tryd.prog 33 #[.agg (uw 8 a).toArray, .int .i64 64, .string t] W fun e w' => e = .returned (.string (enW a t)) ∧ Below W.heap.size W w') := fun W h => implEnded a 64 t ha (by omega) ht W h
  have H2 : Hid (∀ W, Rt W → Calls Tryd.prog 33 #[.agg (uw 8 b).toArray, .int .i64 64, .string (enW a t)] W fun e w' => e = .returned (.string (enW b (enW a t))) ∧ Below W.heap.size W w') := fun W h => implEnded b 64 _ hb (by omega) (by rw [enW_size]; omega) W h
  generalize enW b (enW a t) = o2 at *
  generalize enW a t = o1 at *
  go_enter Tryd.func26, Tryd.ntmps26
  have h0 := Aw.new w 16 (ky2 a b) 54
  have hB := (Below.refl w.heap.size w).alloc (Nat.le_refl _) (.cells (uw 16 (ky2 a b)).toArray 54)
  have ha0 : Aw _ w.heap.size 0 8 a := (h0.part 0 8 (by omega)).congr (g := a) (fun i hi => by unfold ky2; rw [Nat.zero_add, if_pos hi])
  have hb0 : Aw _ w.heap.size 8 8 b := (h0.part 8 8 (by omega)).congr (g := b) (fun i hi => by unfold ky2; rw [if_neg (by omega), Nat.add_sub_cancel_left])
  go_wp2_with fail
  generalize w.alloc (.cells (uw 16 (ky2 a b)).toArray 54) = W at h0 hB ha0 hb0 ⊢
  have T0 := hide ((unhide HT).kept hB)
  have B0 := hide hB
  clear hB HT h0
  refine wp_region_held_drew (S := fun V => Aw V w.heap.size 0 8 a ∧ Aw V w.heap.size 8 8 b) (by kernel_rfl) ⟨ha0.drew, hb0.drew⟩ (fun hHeld => ?_)
  refine wpAnyH_take (i := 0) (v := ?_) rfl (by kernel_rfl) (by kernel_rfl) (by kernel_rfl) (fun _ _ _ h => h) (Or.inl ⟨by rfl, ?_⟩) hHeld ?_
  rotate_left
  · intro V hSw; go_simp; rfl
  simp only [Act.put, List.getElem_toArray, List.getElem_cons_zero, List.setIfInBounds_toArray, List.set_cons_zero, List.set_cons_succ]
  refine wpAnyH_take (i := 2) (v := ?_) rfl (by kernel_rfl) (by kernel_rfl) (by kernel_rfl) (fun _ _ _ h => h) (Or.inl ⟨by rfl, ?_⟩) hHeld ?_
  rotate_left
  · intro V hSw; go_simp; rfl
  simp only [Act.put, List.getElem_toArray, List.getElem_cons_succ, List.getElem_cons_zero, List.setIfInBounds_toArray, List.set_cons_zero, List.set_cons_succ]
  refine wpAnyH_take (i := 4) (v := ?_) rfl (by kernel_rfl) (by kernel_rfl) (by kernel_rfl) (fun _ _ _ h => h) (Or.inl ⟨by rfl, ?_⟩) hHeld ?_
  rotate_left
  · intro V hSw; go_simp; rfl
  simp only [Act.put, List.getElem_toArray, List.getElem_cons_succ, List.getElem_cons_zero, List.setIfInBounds_toArray, List.set_cons_zero, List.set_cons_succ]
  refine wpAnyH_take (i := 1) rfl (by kernel_rfl) (by kernel_rfl) (by kernel_rfl) (fun _ _ _ h => h) (yieldsIf_load_mid (by rfl) 52 (.tmp 5) rfl w.heap.size 8 rfl (uw 8 b) _ (fun V h => h.2.range) Tryd.underlying52 rfl (by rw [uw_length]; exact info_st)) hHeld ?_
  simp only [Act.put, List.getElem_toArray, List.getElem_cons_succ, List.getElem_cons_zero, List.setIfInBounds_toArray, List.set_cons_zero, List.set_cons_succ]
  refine wpAnyH_take (i := 3) rfl (by kernel_rfl) (by kernel_rfl) (by kernel_rfl) (fun _ _ _ h => h) (yieldsIf_load_mid (by rfl) 52 (.tmp 7) rfl w.heap.size 0 rfl (uw 8 a) _ (fun V h => h.1.range) Tryd.underlying52 rfl (by rw [uw_length]; exact info_st)) hHeld ?_
  simp only [Act.put, List.getElem_toArray, List.getElem_cons_succ, List.getElem_cons_zero, List.setIfInBounds_toArray, List.set_cons_zero, List.set_cons_succ]
  refine wpAnyH_ready (rs := [5]) (by kernel_rfl) (by simp) ?_
  refine AllReadyH.cons rfl (fun K hK => ?_) AllReadyH.nil
  go_simp
  go_at_call 33
  refine (unhide H1 _ ((unhide T0).kept ((Below.refl _ _).drew))).mono ?_
  rintro e w1 ⟨rfl, b1⟩
  have T1 := hide ((unhide T0).kept (((Below.refl _ _).drew).trans b1))
  have B1 := hide ((unhide B0).drew.trans (b1.mono (unhide B0).size))
  refine hK.out _ _ (⟨ha0.drew.below b1 ha0.lt, hb0.drew.below b1 hb0.lt⟩) (fun hHeld => ?_)
  clear hK K
  try simp only [Act.put, List.getElem_toArray, List.getElem_cons_succ, List.getElem_cons_zero, List.setIfInBounds_toArray, List.set_cons_zero, List.set_cons_succ]
  refine wpAnyH_ready (rs := [6]) (by kernel_rfl) (by simp) ?_
  refine AllReadyH.cons rfl (fun K hK => ?_) AllReadyH.nil
  go_simp
  go_at_call 33
  refine (unhide H2 _ (unhide T1)).mono ?_
  rintro e w2 ⟨rfl, b2⟩
  have B2 := hide ((unhide B1).trans (b2.mono (unhide B1).size))
  refine hK.out _ _ (⟨hHeld.1.below b2 hHeld.1.lt, hHeld.2.below b2 hHeld.2.lt⟩) (fun hHeld => ?_)
  clear hK K
  try simp only [Act.put, List.getElem_toArray, List.getElem_cons_succ, List.getElem_cons_zero, List.setIfInBounds_toArray, List.set_cons_zero, List.set_cons_succ]
  refine wpAnyH_take (i := 7) (v := ?_) rfl (by kernel_rfl) (by kernel_rfl) (by kernel_rfl) (fun _ _ _ h => h) (Or.inl ⟨by rfl, ?_⟩) hHeld ?_
  rotate_left
  · intro V hSw; go_simp; rfl
  simp only [Act.put, List.getElem_toArray, List.getElem_cons_succ, List.getElem_cons_zero, List.setIfInBounds_toArray, List.set_cons_zero, List.set_cons_succ]
  refine wpAnyH_done (by kernel_rfl) ?_ _
  clear hHeld b1 b2
  go_wp2
  go_ret
  exact ⟨rfl, unhide B2⟩
end Go.Proofs.YtlphaciboaicgaaDoor
