/-
  Contracts: the hash of a text from a state on, the program's.
-/
import Derived.Test.YtpjmnnaiegdjmaaDoorSfi
import Derived.Test.YtpjmnnaiegdjmaaDoorSbh
namespace Go.Proofs.YtpjmnnaiegdjmaaDoor
open Go.ChangeShapes Go.WideShapes Go.ChangeAt Go.RowKit
set_option linter.unusedVariables false

/-- a block of a text -/
def blk (u : ByteArray) (j : Nat) : ByteArray := u.extract (64 * j) (64 * j + 64)
theorem blk_size (u : ByteArray) (j : Nat) (h : 64 * j + 64 ≤ u.size) : (blk u j).size = 64 := by unfold blk; rw [ByteArray.size_extract]; omega
/-- the state behind k blocks -/
def stW (s : Nat → Nat) (u : ByteArray) : Nat → Nat → Nat
  | 0 => s
  | k + 1 => bhW (stW s u k) (blk u k)
theorem stW_lt (s : Nat → Nat) (u : ByteArray) (hs : ∀ i, s i < 4294967296) : ∀ k i, stW s u k i < 4294967296
  | 0, i => hs i
  | k + 1, i => bhW_lt _ _ i
/-- the bytes of a state's words -/
def dgW (s : Nat → Nat) (i : Nat) : Nat := byW (s (i / 4)) (3 - i % 4)
theorem Sv.fresh {base : Nat} {w : World} {v : Value} {n : Nat} {f : Nat → Nat} (h : Sv base w v n f) : v.ownBlock ≠ some w.heap.size := by
  rcases h with ⟨_, rfl⟩ | ⟨g, o, cap, rfl, _, hs⟩
  · simp [Value.ownBlock]
  · have := hs.ar.lt
    simp [Value.ownBlock]
    omega
set_option maxRecDepth 100000 in
set_option maxHeartbeats 1000000 in
theorem implEnded (s : Nat → Nat) (seen : Nat) (t : ByteArray) (hs : ∀ i, s i < 4294967296) (hsn : seen ≤ 1000) (ht : t.size ≤ 10000) (w : World) (hT : Rt w) :
    Calls Tryd.prog 81 #[.agg (uw 8 s).toArray, .int .i64 seen, .string t] w fun e w' => e = .returned (.string (bq 32 (dgW (stW s (bq (pdL t.size) (pdB t (seen + t.size))) (pdL t.size / 64))))) ∧ Below w.heap.size w w' := by
  have HT := hide hT
  have hFl : Hid (∀ W, Calls Tryd.prog 89 #[.string t, .int .i64 ((seen : Int) + (t.size : Int))] W fun e w' => e = .returned (.string (bq (pdL t.size) (pdB t (seen + t.size)))) ∧ Below W.heap.size W w') := fun W => by
    have h := implFilled t (seen + t.size) ht (by omega) W
    rw [Int.natCast_add] at h
    exact h
  have hU : (bq (pdL t.size) (pdB t (seen + t.size))).size = 64 * (pdL t.size / 64) := by
    rw [bq_size]
    have := pdL_mod t.size
    omega
  have hK : pdL t.size / 64 ≤ 1000 := by have := pdL_gt t.size; omega
  generalize bq (pdL t.size) (pdB t (seen + t.size)) = u at *
  generalize pdL t.size / 64 = K at *
  have h0 := Aw.new w 8 s 92
  have hB := (Below.refl w.heap.size w).alloc (Nat.le_refl _) (.cells (uw 8 s).toArray 92)
  generalize hW : w.alloc (.cells (uw 8 s).toArray 92) = W at h0 hB
  have H0 := hide h0
  have HB := hide hB
  have HW := hide hW
  have hwlt : w.heap.size < W.heap.size := h0.lt
  have l0 : 0 < w.heap.size := hT.lt
  clear h0 hB hW hT
  go_enter Tryd.func81, Tryd.ntmps81
  go_wp2_with fail
  rw [unhide HW]
  refine (unhide hFl _).mono ?_
  rintro e w1 ⟨rfl, b1⟩
  replace H0 := hide ((unhide H0).below b1 (unhide H0).lt)
  replace HB := hide ((unhide HB).trans (b1.mono (unhide HB).size))
  clear b1 hFl HW
  have HS := hide hs
  have HBH := hide (fun f (hf : ∀ i, f i < 4294967296) b (hb : b.size = 64) W (hT : Rt W) => implBehind f b hf hb W hT)
  have HSL := hide (fun k => stW_lt s u hs k)
  have HST : Hid (∀ k, stW s u (k + 1) = bhW (stW s u k) (blk u k)) := fun k => rfl
  have HBS := hide (fun j h => blk_size u j h)
  have HBE : Hid (∀ j, blk u j = u.extract (64 * j) (64 * j + 64)) := fun j => rfl
  have hU' := hide hU
  clear hs
  have hUi : ((u.size : Nat) : Int) = ((64 * K : Nat) : Int) := by omega
  go_wp2_with fail
  go_loopw [8] (fun av wr => ∃ k : Nat, k ≤ K ∧ av = .int .i64 ((64 * k : Nat) : Int) ∧ Aw wr w.heap.size 0 8 (stW s u k) ∧ Below w.heap.size w wr) (fun av _ => u.size - (intOf av).toNat)
  case atStart => exact ⟨0, by omega, rfl, unhide H0, unhide HB⟩
  case round =>
    obtain ⟨k, hk, rfl, h0, hBr⟩ := hrel
    by_cases hlt : k < K
    · have hbs := unhide HBS k (by omega)
      have hTr := (unhide HT).kept hBr
      have hR1 := hide (unhide HBH (stW s u k) (unhide HSL k) (blk u k) hbs)
      have ERS := hide (unhide HST k)
      have EB := unhide HBE k
      have G0 := hide h0
      have GB := hide hBr
      have GT := hide hTr
      clear h0 hBr hTr H0 HB
      obtain ⟨p, hp⟩ : ∃ q, q = 64 * k := ⟨_, rfl⟩
      obtain ⟨p2, hp2⟩ : ∃ q, q = p + 64 := ⟨_, rfl⟩
      rw [← hp] at EB ⊢
      rw [← hp2] at EB
      have v1 : IntKind.i64.wrap ((p : Int) + 64) = (p2 : Int) := by rw [show (p : Int) + 64 = (p2 : Int) by omega]; exact wraps_i64 _ (by omega) (by omega)
      have v0 : IntKind.i64.wrap (p : Int) = (p : Int) := wraps_i64 _ (by omega) (by omega)
      have v2 : IntKind.i64.wrap (p2 : Int) = (p2 : Int) := wraps_i64 _ (by omega) (by omega)
      have i1 : (p : Int) < u.size := by omega
      have i2 : (p2 : Int) ≤ u.size := by omega
      have i3 : (p : Int) ≤ (p2 : Int) := by omega
      have i4 : p ≤ p2 := by omega
      have i5 : p2 ≤ u.size := by omega
      have HP := hide (And.intro hp hp2)
      have HEB := hide EB
      clear hp hp2 EB hUi hU hbs
      generalize hf : stW s u k = f at *
      clear hf
      generalize hf' : stW s u (k + 1) = f' at *
      have HF' := hide hf'
      clear hf'
      go_wp2_with fail
      refine wp_region_noPanic ?_
      refine wp_region_held_drew (S := fun _ => True) (by kernel_rfl) True.intro (fun hHeld => ?_)
      refine wpAnyH_take (i := 1) (v := ?_) rfl (by kernel_rfl) (by kernel_rfl) (by kernel_rfl) (fun _ _ _ h => h) (Or.inl ⟨by rfl, ?_⟩) hHeld ?_
      rotate_left
      · intro V hSw; go_simp; rfl
      simp only [Act.put, List.getElem_toArray, List.getElem_cons_succ, List.getElem_cons_zero, List.setIfInBounds_toArray, List.set_cons_zero, List.set_cons_succ]
      refine wpAnyH_take (i := 2) (v := ?_) rfl (by kernel_rfl) (by kernel_rfl) (by kernel_rfl) (fun _ _ _ h => h) (Or.inl ⟨by rfl, ?_⟩) hHeld ?_
      rotate_left
      · intro V hSw; go_simp; rfl
      simp only [Act.put, List.getElem_toArray, List.getElem_cons_succ, List.getElem_cons_zero, List.setIfInBounds_toArray, List.set_cons_zero, List.set_cons_succ]
      refine wpAnyH_take (i := 3) (v := ?_) rfl (by kernel_rfl) (by kernel_rfl) (by kernel_rfl) (fun _ _ _ h => h) (Or.inl ⟨by rfl, ?_⟩) hHeld ?_
      rotate_left
      · intro V hSw; go_simp; rfl
      simp only [Act.put, List.getElem_toArray, List.getElem_cons_succ, List.getElem_cons_zero, List.setIfInBounds_toArray, List.set_cons_zero, List.set_cons_succ]
      refine wpAnyH_take (i := 4) (v := ?_) rfl (by kernel_rfl) (by kernel_rfl) (by kernel_rfl) (fun _ _ _ h => h) (Or.inl ⟨by rfl, ?_⟩) hHeld ?_
      rotate_left
      · intro V hSw; go_simp; rfl
      simp only [Act.put, List.getElem_toArray, List.getElem_cons_succ, List.getElem_cons_zero, List.setIfInBounds_toArray, List.set_cons_zero, List.set_cons_succ]
      refine wpAnyH_take (i := 5) (v := ?_) rfl (by kernel_rfl) (by kernel_rfl) (by kernel_rfl) (fun _ _ _ h => h) (Or.inl ⟨by rfl, ?_⟩) hHeld ?_
      rotate_left
      · intro V hSw; go_simp; rfl
      simp only [Act.put, List.getElem_toArray, List.getElem_cons_succ, List.getElem_cons_zero, List.setIfInBounds_toArray, List.set_cons_zero, List.set_cons_succ]
      rw [← unhide HEB]
      refine wpAnyH_ready (rs := [0]) (by kernel_rfl) (by simp) ?_
      refine AllReadyH.cons rfl (fun K hK => ?_) AllReadyH.nil
      rw [if_pos (by rfl)]
      refine wp_load_mid 92 (.tmp 3) rfl w.heap.size 0 rfl (uw 8 f) _ (unhide G0).drew.range Tryd.underlying92 rfl (by rw [uw_length]; exact info_st) ?_
      refine hK.out _ _ (True.intro) (fun hHeld => ?_)
      clear hK K
      try simp only [Act.put, List.getElem_toArray, List.getElem_cons_zero, List.setIfInBounds_toArray, List.set_cons_zero, List.set_cons_succ]
      refine wpAnyH_ready (rs := [6]) (by kernel_rfl) (by simp) ?_
      refine AllReadyH.cons rfl (fun K hK => ?_) AllReadyH.nil
      go_simp
      go_at_call 90
      with_reducible refine (unhide hR1 _ ?_).mono ?_
      · exact (unhide GT).kept ((Below.refl _ _).drew)
      rintro e w2 ⟨rfl, hb2⟩
      refine hK.out _ _ (True.intro) (fun hHeld => ?_)
      clear hK K
      try simp only [Act.put, List.getElem_toArray, List.getElem_cons_succ, List.getElem_cons_zero, List.setIfInBounds_toArray, List.set_cons_zero, List.set_cons_succ]
      refine wpAnyH_ready (rs := [7]) (by kernel_rfl) (by simp) ?_
      refine AllReadyH.cons rfl (fun K hK => ?_) AllReadyH.nil
      rw [if_pos (by rfl)]
      have g0 := (unhide G0).drew.below hb2 (unhide G0).lt
      have g3 := (unhide GB).drew.trans (hb2.mono (unhide GB).size)
      refine wp_store_mid 92 (.tmp 3) (.tmp 30) rfl w.heap.size 0 (uw 8 (bhW f (blk u k))).toArray rfl rfl (by rw [uw_size]; exact g0.there) (by rw [uw_size]; exact info_st) (uw_one _ _) ?_
      refine hK.out _ _ (True.intro) (fun hHeld => ?_)
      clear hK K
      try simp only [Act.put, List.getElem_toArray, List.getElem_cons_succ, List.getElem_cons_zero]
      refine wpAnyH_done (by kernel_rfl) ?_ _
      refine NoPanic.normal ?_
      have q0 := hide (g0.puts (g := bhW f (blk u k)))
      have q3 := hide (Go.Proofs.YtpjmnnaiegdjmaaDoor.below_setCells (b := w.heap.size) (Nat.le_refl _) (uw 8 (bhW f (blk u k))) 0 _ g3)
      clear g0 g3 hHeld hb2
      generalize w2.setCells w.heap.size 0 (uw 8 (bhW f (blk u k))) = V1 at q0 q3 ⊢
      rw [← unhide ERS] at q0
      go_wp2
      obtain ⟨hp, hp2⟩ := unhide HP
      exact ⟨⟨k + 1, by omega, by rw [hp2, hp]; go_num, by rw [unhide HF']; exact unhide q0, unhide q3⟩, by simp [intOf]; omega⟩
    · obtain rfl : k = K := by omega
      have G0 := hide h0
      have GB := hide hBr
      have HD := hide (unhide HSL k)
      clear h0 hBr H0 HB HBH HST HBS HBE HSL
      have hnl : ¬ ((64 * (k : Int)) < (u.size : Int)) := by omega
      generalize hfe : stW s u k = f at *
      have HFE := hide hfe
      clear hfe
      go_upto_region 7 with fail
      refine wp_region_list ?_
      refine wpList_load_mid rfl 92 (.tmp 3) rfl w.heap.size 0 rfl (uw 8 f) _ (unhide G0).range Tryd.underlying92 rfl (by rw [uw_length]; exact info_st) ?_
      have HI := hide (fun j (hj : j < 8) V => idx_uw 8 92 f j hj Tryd.underlying92 V)
      clear G0
      have hwz := (unhide GB).size
      generalize ((64 * k : Nat) : Int) = z8
      generalize (64 * (k : Int)) = z20
      go_wp2_with fail
      go_loopw [9, 32] (fun v iv wx => ∃ i : Nat, i ≤ 8 ∧ iv = .int .i64 i ∧ Sv w.heap.size wx v (4 * i) (dgW f) ∧ Below w.heap.size w wx) (fun _ iv _ => 8 - (intOf iv).toNat)
      case atStart => exact ⟨0, by omega, rfl, Or.inl ⟨rfl, rfl⟩, unhide GB⟩
      case round =>
        obtain ⟨i, hi, rfl, hv, hBr⟩ := hrel
        by_cases hlt : i < 8
        · have hI := unhide HI i hlt wr
          have hfl := unhide HD i
          have hsz := hBr.size
          have hne := hv.fresh
          have al := (Below.refl wr.heap.size wr).alloc (Nat.le_refl _) (.cells #[.int .i64 ((f i : Nat) : Int)] 3)
          have hA := new_i wr (f i)
          have HC := hide (appendWords_sv u9 (4 * i) w.heap.size wr.heap.size 1 1 (dgW f) (fun _ => f i) _ (hv.kept al) (by rw [World.size_alloc]; omega) hne hA (fun _ _ => hfl) (by omega) (fun a ha j hj => by
            obtain rfl : a = 0 := by omega
            unfold dgW
            rw [show (4 * i + 4 * 0 + j) / 4 = i by omega, show (4 * i + 4 * 0 + j) % 4 = j by omega]))
          have GB2 := hide (hBr.trans (al.mono hsz))
          clear hv hBr hne al hA GB
          generalize f i = x at *
          go_wp2_with fail
          refine (unhide HC).mono ?_
          rintro e w4 ⟨v4, rfl, hv4, b4⟩
          have Q1 := hide hv4
          have Q2 := hide ((unhide GB2).trans b4)
          clear hv4 b4 GB2 HC
          go_wp2
          exact ⟨⟨i + 1, by omega, by go_num, by rw [show 4 * (i + 1) = 4 * i + 4 * 1 by omega]; exact unhide Q1, unhide Q2⟩, by simp [intOf]; omega⟩
        · obtain rfl : i = 8 := by omega
          have hst := Sv.string (n := 32) hv (by omega) (fun i _ => byW_lt _ _)
          have Q2 := hide hBr
          clear hv hBr GB HI
          go_wp2
          go_ret
          exact ⟨by rw [unhide HFE]; rfl, unhide Q2⟩
end Go.Proofs.YtpjmnnaiegdjmaaDoor
