/-
  Contracts: a state behind a block, the program's.
-/
import Derived.Test.YtpjmnnaiegdjmaaDoorSwo
import Derived.Test.YtpjmnnaiegdjmaaDoorIrw
namespace Go.Proofs.YtpjmnnaiegdjmaaDoor
open Go.ChangeShapes Go.WideShapes Go.ChangeAt Go.RowKit
set_option linter.unusedVariables false

/-- k rounds over the words x -/
def rdsW (s x : Nat → Nat) : Nat → Nat → Nat
  | 0 => s
  | k + 1 => rndW (rdsW s x k) (x k)
/-- the word of a round and that of the block -/
def kwW (b : ByteArray) (k : Nat) : Nat := (KW k + wsW b 48 k) % 4294967296
/-- the state behind a block -/
def bhW (s : Nat → Nat) (b : ByteArray) (i : Nat) : Nat := (s i + rdsW s (kwW b) 64 i) % 4294967296
theorem rndW_lt (s : Nat → Nat) (x : Nat) (hs : ∀ i, s i < 4294967296) (i : Nat) : rndW s x i < 4294967296 := by
  unfold rndW
  split
  · exact Nat.mod_lt _ (by omega)
  · split
    · exact Nat.mod_lt _ (by omega)
    · exact hs _
theorem rdsW_lt (s x : Nat → Nat) (hs : ∀ i, s i < 4294967296) : ∀ k i, rdsW s x k i < 4294967296
  | 0, i => hs i
  | k + 1, i => rndW_lt _ _ (rdsW_lt s x hs k) i
theorem kwW_lt (b : ByteArray) (k : Nat) : kwW b k < 4294967296 := Nat.mod_lt _ (by omega)
theorem bhW_lt (s : Nat → Nat) (b : ByteArray) (i : Nat) : bhW s b i < 4294967296 := Nat.mod_lt _ (by omega)
theorem size_w32 (w : World) : (Go.sizeOf 88).run Tryd.prog w = .ok 1 w := by
  obtain ⟨i0, hi, hz0, hz1, hz2⟩ := info_parts info_u32
  simp [sizeOf, typeInfo, hi, hz1]
/-- an array that was loaded, indexed -/
theorem idx_uw (n : Nat) (t : TypeId) (f : Nat → Nat) (k : Nat) (hk : k < n) (hu : Tryd.prog.underlying t = some (.array n 88)) (w : World) :
    (Instr.index t (.agg (uw n f).toArray) (.int .i64 k)).run Tryd.prog w = .ok (.int .u32 (f k : Nat)) w := by
  have h0 : (0 : Int) ≤ (k : Int) ∧ (k : Int) < (n : Int) := by omega
  have hs := size_w32 w
  have hus : (uw n f)[k]? = some (.int .u32 (f k : Nat)) := by simp [uw_def, hk]
  simp [Instr.index, run_underlying hu, asIntOf, h0, hs, part, isAgg, run_underlying Tryd.underlying88, hus, go_sem]
  intro h9
  omega
set_option maxRecDepth 100000 in
set_option maxHeartbeats 400000 in
theorem implBehind (s : Nat → Nat) (b : ByteArray) (hs : ∀ i, s i < 4294967296) (hb : b.size = 64) (w : World) (hT : Rt w) :
    Calls Tryd.prog 90 #[.agg (uw 8 s).toArray, .string b] w fun e w' => e = .returned (.agg (uw 8 (bhW s b)).toArray) ∧ Below w.heap.size w w' := by
  go_enter Tryd.func90, Tryd.ntmps90
  have hlt0 : 0 < w.heap.size := hT.lt
  have h0 := ((Aw.new w 8 s 92).alloc (.cells #[.int .u32 0, .int .u32 0, .int .u32 0, .int .u32 0, .int .u32 0, .int .u32 0, .int .u32 0, .int .u32 0] 92))
  have h1 := z8_new (w.alloc (.cells (uw 8 s).toArray 92)) 92
  rw [World.size_alloc] at h1
  have hB := ((Below.refl w.heap.size w).alloc (Nat.le_refl _) (.cells (uw 8 s).toArray 92)).alloc (by simp) (.cells #[.int .u32 0, .int .u32 0, .int .u32 0, .int .u32 0, .int .u32 0, .int .u32 0, .int .u32 0, .int .u32 0] 92)
  have hz : ((w.alloc (.cells (uw 8 s).toArray 92)).alloc (.cells #[.int .u32 0, .int .u32 0, .int .u32 0, .int .u32 0, .int .u32 0, .int .u32 0, .int .u32 0, .int .u32 0] 92)).heap.size = w.heap.size + 1 + 1 := by simp
  have H0 := hide h0
  have H1 := hide h1
  have HB := hide hB
  have HT := hide hT
  have HZ := hide hz
  clear h0 h1 hB hT hz
  go_upto_region 1 with fail
  generalize (w.alloc (.cells (uw 8 s).toArray 92)).alloc (.cells #[.int .u32 0, .int .u32 0, .int .u32 0, .int .u32 0, .int .u32 0, .int .u32 0, .int .u32 0, .int .u32 0] 92) = W at H0 H1 HB HZ ⊢
  refine wp_region_list ?_
  refine wpList_load_mid rfl 92 (.tmp 2) rfl w.heap.size 0 rfl (uw 8 s) _ (unhide H0).range Tryd.underlying92 rfl (by rw [uw_length]; exact info_st) ?_
  have hl : (uw 8 s).length = 8 := uw_length _ _
  have h2 := z8_new W 92
  go_wp2_with fail
  rw [h2.cellsPut]
  have hz := unhide HZ
  have h3 := h2.puts (g := s)
  have h4 := ((unhide H0).alloc (.cells #[.int .u32 0, .int .u32 0, .int .u32 0, .int .u32 0, .int .u32 0, .int .u32 0, .int .u32 0, .int .u32 0] 92)).others (b' := W.heap.size) (o' := 0) (vs := uw 8 s) (Or.inl (by omega))
  have h5 := ((unhide H1).alloc (.cells #[.int .u32 0, .int .u32 0, .int .u32 0, .int .u32 0, .int .u32 0, .int .u32 0, .int .u32 0, .int .u32 0] 92)).others (b' := W.heap.size) (o' := 0) (vs := uw 8 s) (Or.inl (by omega))
  have h6 := Go.Proofs.YtpjmnnaiegdjmaaDoor.below_setCells (b := W.heap.size) (by omega) (uw 8 s) 0 _ ((unhide HB).alloc (by omega) (.cells #[.int .u32 0, .int .u32 0, .int .u32 0, .int .u32 0, .int .u32 0, .int .u32 0, .int .u32 0, .int .u32 0] 92))
  rw [hz] at h3 h4 h5 h6 ⊢
  generalize (W.alloc (.cells #[.int .u32 0, .int .u32 0, .int .u32 0, .int .u32 0, .int .u32 0, .int .u32 0, .int .u32 0, .int .u32 0] 92)).setCells (w.heap.size + 1 + 1) 0 (uw 8 s) = W2 at h3 h4 h5 h6 ⊢
  replace H0 := hide h4
  replace H1 := hide h5
  replace HB := hide h6
  have H2 := hide h3
  clear h2 h3 h4 h5 h6 hl hz HZ
  have HW := hide (fun V => implWords b hb V)
  go_wp2_with (go_at_call 95; with_reducible refine (unhide HW _).mono ?_; rintro e w3 ⟨rfl, hb3⟩)
  replace H0 := hide ((unhide H0).below hb3 (unhide H0).lt)
  replace H1 := hide ((unhide H1).below hb3 (unhide H1).lt)
  replace H2 := hide ((unhide H2).below hb3 (unhide H2).lt)
  replace HB := hide ((unhide HB).trans (hb3.mono (unhide HB).size))
  clear hb3 HW
  have HS := hide hs
  have HI := hide (fun k (hk : k < 64) V => idx_uw 64 104 (wsW b 48) k hk Tryd.underlying104 V)
  have HWB := hide (fun k => wsW_lt b 48 k)
  have HKW : Hid (∀ k, kwW b k = (KW k + wsW b 48 k) % 4294967296) := fun k => rfl
  have HR : Hid (∀ k, rdsW s (kwW b) (k + 1) = rndW (rdsW s (kwW b) k) (kwW b k)) := fun k => rfl
  have HRL := hide (fun k => rdsW_lt s (kwW b) hs k)
  have HRD := hide (fun f (hf : ∀ i, f i < 4294967296) x (hx : x < 4294967296) V => implRound f x hf hx V)
  clear hs
  generalize wsW b 48 = x at *
  go_loopw [12] (fun iv wr => ∃ k : Nat, k ≤ 64 ∧ iv = .int .i64 k ∧ Aw wr w.heap.size 0 8 s ∧ Aw wr (w.heap.size + 1) 0 8 (fun _ => 0) ∧ Aw wr (w.heap.size + 1 + 1) 0 8 (rdsW s (kwW b) k) ∧ Below w.heap.size w wr) (fun iv _ => 64 - (intOf iv).toNat)
  case atStart => exact ⟨0, by omega, rfl, unhide H0, unhide H1, unhide H2, unhide HB⟩
  case round =>
    obtain ⟨k, hk, rfl, h0, h1, h2, hB⟩ := hrel
    by_cases hlt : k < 64
    · have hI := unhide HI k hlt wr
      have hTr := (unhide HT).below hB hlt0
      have cK := hTr.c k hlt
      rw [Nat.zero_add] at cK
      have hKl := KW_lt k
      have hxl := unhide HWB k
      have hkw := unhide HKW k
      have hrs := unhide HR k
      have hR1 := hide (unhide HRD (rdsW s (kwW b) k) (unhide HRL k) (kwW b k) (kwW_lt b k))
      have H0' := hide h0
      have H1' := hide h1
      have H2' := hide h2
      have HB' := hide hB
      have HTr := hide hTr
      clear h0 h1 h2 hB hTr H0 H1 H2 HB
      have EKW : Hid ((((KW k : Nat) : Int) + ((x k : Nat) : Int)) % 4294967296 = ((kwW b k : Nat) : Int)) := by rw [hkw]; exact (show (((KW k : Nat) : Int) + ((x k : Nat) : Int)) % 4294967296 = (((KW k + x k) % 4294967296 : Nat) : Int) by omega)
      have ERS := hide hrs
      clear hkw hrs
      generalize KW k = kk at *
      generalize x k = xk at *
      generalize kwW b k = y at *
      generalize rdsW s (kwW b) k = f at *
      generalize hf' : rdsW s (kwW b) (k + 1) = f' at *
      have HF' := hide hf'
      clear hf'
      have ik : (k : Int) < 64 := by omega
      go_wp2_with fail
      have S0 : Hid (wr.drew.cell? ⟨0, k, none⟩ = some (.int .u32 (kk : Nat))) := cK
      refine wp_region_held_drew (S := fun V => V.cell? ⟨0, k, none⟩ = some (.int .u32 (kk : Nat))) (by kernel_rfl) (unhide S0) (fun hHeld => ?_)
      refine wpAnyH_take (i := 1) (v := ?_) rfl (by kernel_rfl) (by kernel_rfl) (by kernel_rfl) (fun _ _ _ h => h) (Or.inl ⟨by rfl, ?_⟩) hHeld ?_
      rotate_left
      · intro V hSw; go_simp; rfl
      simp only [Act.put, List.getElem_toArray, List.getElem_cons_succ, List.getElem_cons_zero, List.setIfInBounds_toArray, List.set_cons_zero, List.set_cons_succ]
      refine wpAnyH_take (i := 2) (v := ?_) rfl (by kernel_rfl) (by kernel_rfl) (by kernel_rfl) (fun _ _ _ h => h) (Or.inl ⟨by rfl, ?_⟩) hHeld ?_
      rotate_left
      · intro V hSw; go_simp; rfl
      simp only [Act.put, List.getElem_toArray, List.getElem_cons_succ, List.getElem_cons_zero, List.setIfInBounds_toArray, List.set_cons_zero, List.set_cons_succ]
      refine wpAnyH_take (i := 3) (v := ?_) rfl (by kernel_rfl) (by kernel_rfl) (by kernel_rfl) (fun _ _ _ h => h) (Or.inl ⟨by rfl, ?_⟩) hHeld ?_
      rotate_left
      · intro V hSw; go_simp; rfl
      simp only [Act.put, List.getElem_toArray, List.getElem_cons_succ, List.getElem_cons_zero, List.setIfInBounds_toArray, List.set_cons_zero, List.set_cons_succ]
      refine wpAnyH_take (i := 4) (v := ?_) rfl (by kernel_rfl) (by kernel_rfl) (by kernel_rfl) (fun _ _ _ h => h) (Or.inl ⟨by rfl, ?_⟩) hHeld ?_
      rotate_left
      · intro V hSw; go_simp; rfl
      simp only [Act.put, List.getElem_toArray, List.getElem_cons_succ, List.getElem_cons_zero, List.setIfInBounds_toArray, List.set_cons_zero, List.set_cons_succ]
      refine wpAnyH_take (i := 5) (v := ?_) rfl (by kernel_rfl) (by kernel_rfl) (by kernel_rfl) (fun _ _ _ h => h) (Or.inl ⟨by rfl, ?_⟩) hHeld ?_
      rotate_left
      · intro V hSw; go_simp; rfl
      simp only [Act.put, List.getElem_toArray, List.getElem_cons_succ, List.getElem_cons_zero, List.setIfInBounds_toArray, List.set_cons_zero, List.set_cons_succ]
      refine wpAnyH_ready (rs := [0]) (by kernel_rfl) (by simp) ?_
      refine AllReadyH.cons rfl (fun K hK => ?_) AllReadyH.nil
      rw [if_pos (by rfl)]
      refine wp_load_mid 92 (.tmp 5) rfl (w.heap.size + 1 + 1) 0 rfl (uw 8 f) _ (unhide H2').drew.range Tryd.underlying92 rfl (by rw [uw_length]; exact info_st) ?_
      refine hK.out _ _ (hHeld) (fun hHeld => ?_)
      clear hK K
      try simp only [Act.put, List.getElem_toArray, List.getElem_cons_zero, List.setIfInBounds_toArray, List.set_cons_zero, List.set_cons_succ]
      refine wpAnyH_ready (rs := [6]) (by kernel_rfl) (by simp) ?_
      refine AllReadyH.cons rfl (fun K hK => ?_) AllReadyH.nil
      first
        | rw [unhide EKW]
        | rw [show IntKind.u32.wrap ((kk : Int) + (xk : Int)) = (y : Int) by rw [IntKind.wrap_u32', unhide EKW]]
      go_simp
      go_at_call 96
      with_reducible refine (unhide hR1 _).mono ?_
      rintro e w2 ⟨rfl, hb2⟩
      have hS2 : w2.cell? ⟨0, k, none⟩ = some (.int .u32 (kk : Nat)) := by rw [hb2.cell (p := ⟨0, k, none⟩) (Nat.lt_of_lt_of_le hlt0 (unhide HB').size)]; exact cK
      refine hK.out _ _ (hS2) (fun hHeld => ?_)
      clear hK K
      try simp only [Act.put, List.getElem_toArray, List.getElem_cons_succ, List.getElem_cons_zero, List.setIfInBounds_toArray, List.set_cons_zero, List.set_cons_succ]
      refine wpAnyH_ready (rs := [7]) (by kernel_rfl) (by simp) ?_
      refine AllReadyH.cons rfl (fun K hK => ?_) AllReadyH.nil
      rw [if_pos (by rfl)]
      have g0 := (unhide H0').drew.below hb2 (unhide H0').lt
      have g1 := (unhide H1').drew.below hb2 (unhide H1').lt
      have g2 := (unhide H2').drew.below hb2 (unhide H2').lt
      have g3 := (unhide HB').drew.trans (hb2.mono (unhide HB').size)
      refine wp_store_mid 92 (.tmp 5) (.tmp 22) rfl (w.heap.size + 1 + 1) 0 (uw 8 (rndW f y)).toArray rfl rfl (by rw [uw_size]; exact g2.there) (by rw [uw_size]; exact info_st) (uw_one _ _) ?_
      have hS3 : (w2.setCells (w.heap.size + 1 + 1) 0 (uw 8 (rndW f y))).cell? ⟨0, k, none⟩ = some (.int .u32 (kk : Nat)) := by
        rw [World.cell?_setCells_out _ _ _ w2 _ (fun e1 _ => by simp at e1 <;> omega)]; exact hS2
      refine hK.out _ _ (hS3) (fun hHeld => ?_)
      clear hK K
      try simp only [Act.put, List.getElem_toArray, List.getElem_cons_succ, List.getElem_cons_zero]
      refine wpAnyH_done (by kernel_rfl) ?_ _
      have q0 := hide (g0.others (b' := w.heap.size + 1 + 1) (o' := 0) (vs := uw 8 (rndW f y)) (Or.inl (by omega)))
      have q1 := hide (g1.others (b' := w.heap.size + 1 + 1) (o' := 0) (vs := uw 8 (rndW f y)) (Or.inl (by omega)))
      have q2 := hide (g2.puts (g := rndW f y))
      have q3 := hide (Go.Proofs.YtpjmnnaiegdjmaaDoor.below_setCells (b := w.heap.size + 1 + 1) (by omega) (uw 8 (rndW f y)) 0 _ g3)
      clear g0 g1 g2 g3 hS2 hS3 hHeld hb2
      generalize w2.setCells (w.heap.size + 1 + 1) 0 (uw 8 (rndW f y)) = V1 at q0 q1 q2 q3 ⊢
      rw [← unhide ERS] at q2
      go_wp2
      exact ⟨⟨k + 1, by omega, by go_num, unhide q0, unhide q1, by rw [unhide HF']; exact unhide q2, unhide q3⟩, by simp [intOf]; omega⟩
    · obtain rfl : k = 64 := by omega
      have H0 := hide h0
      have H1 := hide h1
      have H2 := hide h2
      have HB := hide hB
      have HRL2 := hide (unhide HRL 64)
      have HBH : Hid (∀ i, bhW s b i = (s i + rdsW s (kwW b) 64 i) % 4294967296) := fun i => rfl
      clear h0 h1 h2 hB HRD HRL HR HKW HWB HI
      rw [show ((64 : Nat) : Int) = (64 : Int) from rfl]
      generalize rdsW s (kwW b) 64 = f at *
      generalize hr : bhW s b = r at *
      go_wp2_with fail
      go_loopw [24] (fun iv wx => ∃ k : Nat, k ≤ 8 ∧ iv = .int .i64 k ∧ Aw wx w.heap.size 0 8 (stp r s k) ∧ Aw wx (w.heap.size + 1) 0 8 (fun _ => 0) ∧ Aw wx (w.heap.size + 1 + 1) 0 8 f ∧ Below w.heap.size w wx) (fun iv _ => 8 - (intOf iv).toNat)
      case atStart => exact ⟨0, by omega, rfl, (unhide H0).stepNone, unhide H1, unhide H2, unhide HB⟩
      case round =>
        obtain ⟨k, hk, rfl, h0, h1, h2, hB⟩ := hrel
        by_cases hlt : k < 8
        · have c0 := h0.c0 k hlt
          have f0 := h0.f0 k hlt
          have c2 := h2.c0 k hlt
          have e0 : stp r s k k = s k := by simp [stp]
          rw [e0] at c0
          have E2 := hide (unhide HBH k)
          have b1 := unhide HS k
          have b2 := unhide HRL2 k
          have q0 := hide h0
          have q1 := hide h1
          have q2 := hide h2
          have q3 := hide hB
          clear h0 h1 h2 hB e0 H0 H1 H2 HB
          have EV : Hid ((((s k : Nat) : Int) + ((f k : Nat) : Int)) % 4294967296 = ((r k : Nat) : Int)) := by rw [unhide E2]; exact (show (((s k : Nat) : Int) + ((f k : Nat) : Int)) % 4294967296 = (((s k + f k) % 4294967296 : Nat) : Int) by omega)
          generalize hs9 : s k = a0 at *
          generalize hf9 : f k = a2 at *
          generalize hr9 : r k = a3 at *
          clear hs9 hf9
          have HR9 := hide hr9
          clear hr9 E2
          go_wp2_with fail
          have ik : (k : Int) < 8 := by omega
          go_region
          go_wp2
          rw [unhide EV]
          refine ⟨⟨k + 1, by omega, by go_num, ?_, ?_, ?_, ?_⟩, by simp [intOf]; omega⟩
          · exact ((unhide q0).step hlt (unhide HR9)).drew
          · exact ((unhide q1).other (by simp)).drew
          · exact ((unhide q2).other (by simp <;> omega)).drew
          · exact ((unhide q3).setCell (by simp) _).drew
        · obtain rfl : k = 8 := by omega
          have H3 := hide h0.stepEnd
          have H4 := hide h1
          have HB2 := hide hB
          clear h0 h1 h2 hB H0 H1 H2 HB
          go_upto_region 12 with fail
          refine wp_region_list ?_
          refine wpList_load_mid rfl 92 (.tmp 2) rfl w.heap.size 0 rfl (uw 8 r) _ (unhide H3).range Tryd.underlying92 rfl (by rw [uw_length]; exact info_st) ?_
          refine wpList_store_mid rfl 92 (.tmp 4) (.tmp 36) rfl (w.heap.size + 1) 0 (uw 8 r).toArray rfl rfl (by rw [uw_size]; exact (unhide H4).there) (by rw [uw_size]; exact info_st) (uw_one _ _) ?_
          refine wpList_nil ?_
          have HH := hide ((unhide H4).puts (g := r))
          clear H3 H4
          go_wp2
          refine ret_arr_w 4 (w.heap.size + 1) 8 92 _ r ?r1 ?r2 ?r3 (unhide HH) Tryd.underlying92 rfl info_st ?_
          case r1 => rfl
          case r2 => rfl
          case r3 => rfl
          exact ⟨by rw [hr], Go.Proofs.YtpjmnnaiegdjmaaDoor.below_setCells (by omega) _ _ _ (unhide HB2)⟩
end Go.Proofs.YtpjmnnaiegdjmaaDoor
