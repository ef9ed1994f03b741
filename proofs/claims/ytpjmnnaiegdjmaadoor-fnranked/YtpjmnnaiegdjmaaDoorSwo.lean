/-
  Contracts: the words of a block, the program's.
-/
import Derived.Test.YtpjmnnaiegdjmaaDoorSrd
import Derived.Test.YtpjmnnaiegdjmaaDoorSw4
namespace Go.Proofs.YtpjmnnaiegdjmaaDoor
open Go.ChangeShapes Go.WideShapes Go.ChangeAt Go.RowKit
set_option linter.unusedVariables false

/-- the words of a block, k of the 48 further ones told -/
def wsW (s : ByteArray) : Nat → Nat → Nat
  | 0, i => if i < 16 then w4 s i else 0
  | k + 1, i => if i = 16 + k then (wsW s k k + lS0 (wsW s k (k + 1)) + wsW s k (k + 9) + lS1 (wsW s k (k + 14))) % 4294967296 else wsW s k i
theorem wsW_lt (s : ByteArray) : ∀ k i, wsW s k i < 4294967296
  | 0, i => by
    unfold wsW
    split
    · exact w4_lt s i
    · omega
  | k + 1, i => by
    unfold wsW
    split
    · exact Nat.mod_lt _ (by omega)
    · exact wsW_lt s k i
theorem wsW_step (s : ByteArray) (k : Nat) : wsW s (k + 1) (k + 16) = (wsW s k k + lS0 (wsW s k (k + 1)) + wsW s k (k + 9) + lS1 (wsW s k (k + 14))) % 4294967296 := by
  rw [wsW, if_pos (by omega)]
theorem sh_lt (x n : Nat) (hx : x < 4294967296) : x / n < 4294967296 := Nat.lt_of_le_of_lt (Nat.div_le_self _ _) hx
theorem lS0_lt (x : Nat) (hx : x < 4294967296) : lS0 x < 4294967296 := xlt (xlt (rr_lt x 7 hx) (rr_lt x 18 hx)) (sh_lt x 8 hx)
theorem lS1_lt (x : Nat) (hx : x < 4294967296) : lS1 x < 4294967296 := xlt (xlt (rr_lt x 17 hx) (rr_lt x 19 hx)) (sh_lt x 1024 hx)
theorem lS0I (x : Nat) (hx : x < 4294967296) : bits .xor .u32 (bits .xor .u32 (rr x 7 : Nat) (rr x 18 : Nat)) ((x : Int) / 8) = ((lS0 x : Nat) : Int) := by
  rw [show (x : Int) / 8 = ((x / 8 : Nat) : Int) by omega, x3I _ _ _ (rr_lt x 7 hx) (rr_lt x 18 hx) (sh_lt x 8 hx)]
  rfl
theorem lS1I (x : Nat) (hx : x < 4294967296) : bits .xor .u32 (bits .xor .u32 (rr x 17 : Nat) (rr x 19 : Nat)) ((x : Int) / 1024) = ((lS1 x : Nat) : Int) := by
  rw [show (x : Int) / 1024 = ((x / 1024 : Nat) : Int) by omega, x3I _ _ _ (rr_lt x 17 hx) (rr_lt x 19 hx) (sh_lt x 1024 hx)]
  rfl
theorem info_64 : (Tryd.prog.info? 104).map (·.size) = some 64 := by kernel_rfl
theorem zer64 : (#[Value.int .u32 0, Value.int .u32 0, Value.int .u32 0, Value.int .u32 0, Value.int .u32 0, Value.int .u32 0, Value.int .u32 0, Value.int .u32 0, Value.int .u32 0, Value.int .u32 0, Value.int .u32 0, Value.int .u32 0, Value.int .u32 0, Value.int .u32 0, Value.int .u32 0, Value.int .u32 0, Value.int .u32 0, Value.int .u32 0, Value.int .u32 0, Value.int .u32 0, Value.int .u32 0, Value.int .u32 0, Value.int .u32 0, Value.int .u32 0, Value.int .u32 0, Value.int .u32 0, Value.int .u32 0, Value.int .u32 0, Value.int .u32 0, Value.int .u32 0, Value.int .u32 0, Value.int .u32 0, Value.int .u32 0, Value.int .u32 0, Value.int .u32 0, Value.int .u32 0, Value.int .u32 0, Value.int .u32 0, Value.int .u32 0, Value.int .u32 0, Value.int .u32 0, Value.int .u32 0, Value.int .u32 0, Value.int .u32 0, Value.int .u32 0, Value.int .u32 0, Value.int .u32 0, Value.int .u32 0, Value.int .u32 0, Value.int .u32 0, Value.int .u32 0, Value.int .u32 0, Value.int .u32 0, Value.int .u32 0, Value.int .u32 0, Value.int .u32 0, Value.int .u32 0, Value.int .u32 0, Value.int .u32 0, Value.int .u32 0, Value.int .u32 0, Value.int .u32 0, Value.int .u32 0, Value.int .u32 0] : Array Value) = (uw 64 fun _ => 0).toArray := by rw [uw_def]; rfl
set_option maxRecDepth 100000 in
set_option maxHeartbeats 400000 in
theorem implWords (s : ByteArray) (hs : s.size = 64) (w : World) :
    Calls Tryd.prog 95 #[.string s] w fun e w' => e = .returned (.agg (uw 64 (wsW s 48)).toArray) ∧ Below w.heap.size w w' := by
  go_enter Tryd.func95, Tryd.ntmps95
  go_wp2_with fail
  rw [zer64]
  have h0 := (Aw.new w 64 (fun _ => 0) 104).alloc (.cells (uw 64 (fun _ => 0)).toArray 104)
  have h1 := Aw.new (w.alloc (.cells (uw 64 (fun _ => 0)).toArray 104)) 64 (fun _ => 0) 104
  rw [World.size_alloc] at h1
  have hB := ((Below.refl w.heap.size w).alloc (Nat.le_refl _) (.cells (uw 64 (fun _ => 0)).toArray 104)).alloc (by simp) (.cells (uw 64 (fun _ => 0)).toArray 104)
  generalize (w.alloc (.cells (uw 64 (fun _ => 0)).toArray 104)).alloc (.cells (uw 64 (fun _ => 0)).toArray 104) = W at h0 h1 hB ⊢
  go_loopw [11] (fun iv wr => ∃ k : Nat, k ≤ 16 ∧ iv = .int .i64 k ∧ Aw wr w.heap.size 0 64 (fun _ => 0) ∧ Aw wr (w.heap.size + 1) 0 64 (stp (w4 s) (fun _ => 0) k) ∧ Below w.heap.size w wr) (fun iv _ => 16 - (intOf iv).toNat)
  case atStart => exact ⟨0, by omega, rfl, h0, h1.stepNone, hB⟩
  case round =>
    obtain ⟨k, hk, rfl, h0, h1, hB⟩ := hrel
    by_cases hlt : k < 16
    · have hc := h1.c0 k (by omega)
      have hf := h1.f0 k (by omega)
      have H0 := hide h0
      have H1 := hide h1
      have HB := hide hB
      clear h0 h1 hB
      go_wp2_with fail
      have e4 : 4 * (k : Int) = ((4 * k : Nat) : Int) := by omega
      rw [e4]
      have hp3 : 4 * k + 3 < s.size := by omega
      generalize 4 * k = p at *
      refine wp_region_noPanic ?_
      refine wp_region_held_drew (S := fun _ => True) (by kernel_rfl) True.intro (fun hHeld => ?_)
      obtain ⟨p1, hp1⟩ : ∃ q, q = p + 1 := ⟨_, rfl⟩
      obtain ⟨p2, hp2⟩ : ∃ q, q = p + 2 := ⟨_, rfl⟩
      obtain ⟨p4, hp4⟩ : ∃ q, q = p + 3 := ⟨_, rfl⟩
      have v1 : IntKind.i64.wrap ((p : Int) + 1) = (p1 : Int) := by rw [show (p : Int) + 1 = (p1 : Int) by omega]; exact wraps_i64 _ (by omega) (by omega)
      have v2 : IntKind.i64.wrap ((p : Int) + 2) = (p2 : Int) := by rw [show (p : Int) + 2 = (p2 : Int) by omega]; exact wraps_i64 _ (by omega) (by omega)
      have v4 : IntKind.i64.wrap ((p : Int) + 3) = (p4 : Int) := by rw [show (p : Int) + 3 = (p4 : Int) by omega]; exact wraps_i64 _ (by omega) (by omega)
      have i0 : (p : Int) < 64 := by omega
      have ik : (k : Int) < 64 := by omega
      have i1 : (p1 : Int) < 64 := by omega
      have i2 : (p2 : Int) < 64 := by omega
      have i3 : (p4 : Int) < 64 := by omega
      have HP := hide (And.intro hp1 (And.intro hp2 hp4))
      have l1 : p1 < s.size := by omega
      have l2 : p2 < s.size := by omega
      have l4 : p4 < s.size := by omega
      clear hp1 hp2 hp4
      refine wpAnyH_take (i := 0) (v := ?_) rfl (by kernel_rfl) (by kernel_rfl) (by kernel_rfl) (fun _ _ _ h => h) (Or.inl ⟨by rfl, ?_⟩) hHeld ?_
      rotate_left
      · intro w hSw; go_simp; rfl
      simp only [Act.put, List.getElem_toArray, List.getElem_cons_zero, List.setIfInBounds_toArray, List.set_cons_zero, List.set_cons_succ]
      refine wpAnyH_take (i := 1) (v := ?_) rfl (by kernel_rfl) (by kernel_rfl) (by kernel_rfl) (fun _ _ _ h => h) (Or.inl ⟨by rfl, ?_⟩) hHeld ?_
      rotate_left
      · intro w hSw; go_simp; rfl
      simp only [Act.put, List.getElem_toArray, List.getElem_cons_succ, List.getElem_cons_zero, List.setIfInBounds_toArray, List.set_cons_zero, List.set_cons_succ]
      refine wpAnyH_take (i := 2) (v := ?_) rfl (by kernel_rfl) (by kernel_rfl) (by kernel_rfl) (fun _ _ _ h => h) (Or.inl ⟨by rfl, ?_⟩) hHeld ?_
      rotate_left
      · intro w hSw; go_simp; rfl
      simp only [Act.put, List.getElem_toArray, List.getElem_cons_succ, List.getElem_cons_zero, List.setIfInBounds_toArray, List.set_cons_zero, List.set_cons_succ]
      refine wpAnyH_take (i := 3) (v := ?_) rfl (by kernel_rfl) (by kernel_rfl) (by kernel_rfl) (fun _ _ _ h => h) (Or.inl ⟨by rfl, ?_⟩) hHeld ?_
      rotate_left
      · intro w hSw; go_simp; rfl
      simp only [Act.put, List.getElem_toArray, List.getElem_cons_succ, List.getElem_cons_zero, List.setIfInBounds_toArray, List.set_cons_zero, List.set_cons_succ]
      refine wpAnyH_take (i := 4) (v := ?_) rfl (by kernel_rfl) (by kernel_rfl) (by kernel_rfl) (fun _ _ _ h => h) (Or.inl ⟨by rfl, ?_⟩) hHeld ?_
      rotate_left
      · intro w hSw; go_simp; rfl
      simp only [Act.put, List.getElem_toArray, List.getElem_cons_succ, List.getElem_cons_zero, List.setIfInBounds_toArray, List.set_cons_zero, List.set_cons_succ]
      refine wpAnyH_take (i := 5) (v := ?_) rfl (by kernel_rfl) (by kernel_rfl) (by kernel_rfl) (fun _ _ _ h => h) (Or.inl ⟨by rfl, ?_⟩) hHeld ?_
      rotate_left
      · intro w hSw; go_simp; rfl
      simp only [Act.put, List.getElem_toArray, List.getElem_cons_succ, List.getElem_cons_zero, List.setIfInBounds_toArray, List.set_cons_zero, List.set_cons_succ]
      refine wpAnyH_take (i := 6) (v := ?_) rfl (by kernel_rfl) (by kernel_rfl) (by kernel_rfl) (fun _ _ _ h => h) (Or.inl ⟨by rfl, ?_⟩) hHeld ?_
      rotate_left
      · intro w hSw; go_simp; rfl
      simp only [Act.put, List.getElem_toArray, List.getElem_cons_succ, List.getElem_cons_zero, List.setIfInBounds_toArray, List.set_cons_zero, List.set_cons_succ]
      refine wpAnyH_take (i := 7) (v := ?_) rfl (by kernel_rfl) (by kernel_rfl) (by kernel_rfl) (fun _ _ _ h => h) (Or.inl ⟨by rfl, ?_⟩) hHeld ?_
      rotate_left
      · intro w hSw; go_simp; rfl
      simp only [Act.put, List.getElem_toArray, List.getElem_cons_succ, List.getElem_cons_zero, List.setIfInBounds_toArray, List.set_cons_zero, List.set_cons_succ]
      refine wpAnyH_take (i := 8) (v := ?_) rfl (by kernel_rfl) (by kernel_rfl) (by kernel_rfl) (fun _ _ _ h => h) (Or.inl ⟨by rfl, ?_⟩) hHeld ?_
      rotate_left
      · intro w hSw; go_simp; rfl
      simp only [Act.put, List.getElem_toArray, List.getElem_cons_succ, List.getElem_cons_zero, List.setIfInBounds_toArray, List.set_cons_zero, List.set_cons_succ]
      refine wpAnyH_take (i := 9) (v := ?_) rfl (by kernel_rfl) (by kernel_rfl) (by kernel_rfl) (fun _ _ _ h => h) (Or.inl ⟨by rfl, ?_⟩) hHeld ?_
      rotate_left
      · intro w hSw; go_simp; rfl
      simp only [Act.put, List.getElem_toArray, List.getElem_cons_succ, List.getElem_cons_zero, List.setIfInBounds_toArray, List.set_cons_zero, List.set_cons_succ]
      refine wpAnyH_take (i := 10) (v := ?_) rfl (by kernel_rfl) (by kernel_rfl) (by kernel_rfl) (fun _ _ _ h => h) (Or.inl ⟨by rfl, ?_⟩) hHeld ?_
      rotate_left
      · intro w hSw; go_simp; rfl
      simp only [Act.put, List.getElem_toArray, List.getElem_cons_succ, List.getElem_cons_zero, List.setIfInBounds_toArray, List.set_cons_zero, List.set_cons_succ]
      refine wpAnyH_take (i := 11) (v := ?_) rfl (by kernel_rfl) (by kernel_rfl) (by kernel_rfl) (fun _ _ _ h => h) (Or.inl ⟨by rfl, ?_⟩) hHeld ?_
      rotate_left
      · intro w hSw; go_simp; rfl
      simp only [Act.put, List.getElem_toArray, List.getElem_cons_succ, List.getElem_cons_zero, List.setIfInBounds_toArray, List.set_cons_zero, List.set_cons_succ]
      refine wpAnyH_take (i := 12) (v := ?_) rfl (by kernel_rfl) (by kernel_rfl) (by kernel_rfl) (fun _ _ _ h => h) (Or.inl ⟨by rfl, ?_⟩) hHeld ?_
      rotate_left
      · intro w hSw; go_simp; rfl
      simp only [Act.put, List.getElem_toArray, List.getElem_cons_succ, List.getElem_cons_zero, List.setIfInBounds_toArray, List.set_cons_zero, List.set_cons_succ]
      refine wpAnyH_take (i := 13) (v := ?_) rfl (by kernel_rfl) (by kernel_rfl) (by kernel_rfl) (fun _ _ _ h => h) (Or.inl ⟨by rfl, ?_⟩) hHeld ?_
      rotate_left
      · intro w hSw; go_simp; rfl
      simp only [Act.put, List.getElem_toArray, List.getElem_cons_succ, List.getElem_cons_zero, List.setIfInBounds_toArray, List.set_cons_zero, List.set_cons_succ]
      refine wpAnyH_take (i := 14) (v := ?_) rfl (by kernel_rfl) (by kernel_rfl) (by kernel_rfl) (fun _ _ _ h => h) (Or.inl ⟨by rfl, ?_⟩) hHeld ?_
      rotate_left
      · intro w hSw; go_simp; rfl
      simp only [Act.put, List.getElem_toArray, List.getElem_cons_succ, List.getElem_cons_zero, List.setIfInBounds_toArray, List.set_cons_zero, List.set_cons_succ]
      refine wpAnyH_take (i := 15) (v := ?_) rfl (by kernel_rfl) (by kernel_rfl) (by kernel_rfl) (fun _ _ _ h => h) (Or.inl ⟨by rfl, ?_⟩) hHeld ?_
      rotate_left
      · intro w hSw; go_simp; rfl
      simp only [Act.put, List.getElem_toArray, List.getElem_cons_succ, List.getElem_cons_zero, List.setIfInBounds_toArray, List.set_cons_zero, List.set_cons_succ]
      refine wpAnyH_take (i := 16) (v := ?_) rfl (by kernel_rfl) (by kernel_rfl) (by kernel_rfl) (fun _ _ _ h => h) (Or.inl ⟨by rfl, ?_⟩) hHeld ?_
      rotate_left
      · intro w hSw; go_simp; rfl
      simp only [Act.put, List.getElem_toArray, List.getElem_cons_succ, List.getElem_cons_zero, List.setIfInBounds_toArray, List.set_cons_zero, List.set_cons_succ]
      refine wpAnyH_take (i := 17) (v := ?_) rfl (by kernel_rfl) (by kernel_rfl) (by kernel_rfl) (fun _ _ _ h => h) (Or.inl ⟨by rfl, ?_⟩) hHeld ?_
      rotate_left
      · intro w hSw; go_simp; rfl
      simp only [Act.put, List.getElem_toArray, List.getElem_cons_succ, List.getElem_cons_zero, List.setIfInBounds_toArray, List.set_cons_zero, List.set_cons_succ]
      refine wpAnyH_take (i := 18) (v := ?_) rfl (by kernel_rfl) (by kernel_rfl) (by kernel_rfl) (fun _ _ _ h => h) (Or.inl ⟨by rfl, ?_⟩) hHeld ?_
      rotate_left
      · intro w hSw; go_simp; rfl
      simp only [Act.put, List.getElem_toArray, List.getElem_cons_succ, List.getElem_cons_zero, List.setIfInBounds_toArray, List.set_cons_zero, List.set_cons_succ]
      refine wpAnyH_take (i := 19) (v := ?_) rfl (by kernel_rfl) (by kernel_rfl) (by kernel_rfl) (fun _ _ _ h => h) (Or.inl ⟨by rfl, ?_⟩) hHeld ?_
      rotate_left
      · intro w hSw; go_simp; rfl
      simp only [Act.put, List.getElem_toArray, List.getElem_cons_succ, List.getElem_cons_zero, List.setIfInBounds_toArray, List.set_cons_zero, List.set_cons_succ]
      refine wpAnyH_take (i := 20) (v := ?_) rfl (by kernel_rfl) (by kernel_rfl) (by kernel_rfl) (fun _ _ _ h => h) (Or.inl ⟨by rfl, ?_⟩) hHeld ?_
      rotate_left
      · intro w hSw; go_simp; rfl
      simp only [Act.put, List.getElem_toArray, List.getElem_cons_succ, List.getElem_cons_zero, List.setIfInBounds_toArray, List.set_cons_zero, List.set_cons_succ]
      refine wpAnyH_take (i := 21) (v := ?_) rfl (by kernel_rfl) (by kernel_rfl) (by kernel_rfl) (fun _ _ _ h => h) (Or.inl ⟨by rfl, ?_⟩) hHeld ?_
      rotate_left
      · intro w hSw; go_simp; rfl
      simp only [Act.put, List.getElem_toArray, List.getElem_cons_succ, List.getElem_cons_zero, List.setIfInBounds_toArray, List.set_cons_zero, List.set_cons_succ]
      refine wpAnyH_take (i := 22) (v := ?_) rfl (by kernel_rfl) (by kernel_rfl) (by kernel_rfl) (fun _ _ _ h => h) (Or.inl ⟨by rfl, ?_⟩) hHeld ?_
      rotate_left
      · intro w hSw; go_simp; rfl
      simp only [Act.put, List.getElem_toArray, List.getElem_cons_succ, List.getElem_cons_zero, List.setIfInBounds_toArray, List.set_cons_zero, List.set_cons_succ]
      refine wpAnyH_take (i := 23) (v := ?_) rfl (by kernel_rfl) (by kernel_rfl) (by kernel_rfl) (fun _ _ _ h => h) (Or.inl ⟨by rfl, ?_⟩) hHeld ?_
      rotate_left
      · intro w hSw; go_simp; rfl
      simp only [Act.put, List.getElem_toArray, List.getElem_cons_succ, List.getElem_cons_zero, List.setIfInBounds_toArray, List.set_cons_zero, List.set_cons_succ]
      refine wpAnyH_take (i := 24) (v := ?_) rfl (by kernel_rfl) (by kernel_rfl) (by kernel_rfl) (fun _ _ _ h => h) (Or.inl ⟨by rfl, ?_⟩) hHeld ?_
      rotate_left
      · intro w hSw; go_simp; rfl
      simp only [Act.put, List.getElem_toArray, List.getElem_cons_succ, List.getElem_cons_zero, List.setIfInBounds_toArray, List.set_cons_zero, List.set_cons_succ]
      refine wpAnyH_take (i := 25) (v := ?_) rfl (by kernel_rfl) (by kernel_rfl) (by kernel_rfl) (fun _ _ _ h => h) (Or.inl ⟨by rfl, ?_⟩) hHeld ?_
      rotate_left
      · intro w hSw; go_simp; rfl
      simp only [Act.put, List.getElem_toArray, List.getElem_cons_succ, List.getElem_cons_zero, List.setIfInBounds_toArray, List.set_cons_zero, List.set_cons_succ]
      refine wpAnyH_take (i := 26) (v := ?_) rfl (by kernel_rfl) (by kernel_rfl) (by kernel_rfl) (fun _ _ _ h => h) (Or.inl ⟨by rfl, ?_⟩) hHeld ?_
      rotate_left
      · intro w hSw; go_simp; rfl
      simp only [Act.put, List.getElem_toArray, List.getElem_cons_succ, List.getElem_cons_zero, List.setIfInBounds_toArray, List.set_cons_zero, List.set_cons_succ]
      refine wpAnyH_ready (rs := [27]) (by kernel_rfl) (by simp) ?_
      refine AllReadyH.cons rfl (fun K hK => ?_) AllReadyH.nil
      go_simp
      refine hK.out _ _ (True.intro) (fun hHeld => ?_)
      clear hK K
      try simp only [Act.put, List.getElem_toArray, List.getElem_cons_succ, List.getElem_cons_zero, List.setIfInBounds_toArray, List.set_cons_zero, List.set_cons_succ]
      refine wpAnyH_done (by kernel_rfl) ?_ _
      refine NoPanic.normal ?_
      have hor := or4 (s[p]'(by omega)).toNat (s[p1]'l1).toNat (s[p2]'l2).toNat (s[p4]'l4).toNat (UInt8.toNat_lt _) (UInt8.toNat_lt _) (UInt8.toNat_lt _) (UInt8.toNat_lt _)
      rw [hor]
      have hw4 : w4 s k = (s[p]'(by omega)).toNat * 16777216 + (s[p1]'l1).toNat * 65536 + (s[p2]'l2).toNat * 256 + (s[p4]'l4).toNat := by
        obtain ⟨q1, q2, q4⟩ := unhide HP
        have e5 : 4 * k = p := by omega
        unfold w4
        rw [e5, ← q1, ← q2, ← q4, at8_in s p (by omega), at8_in s p1 l1, at8_in s p2 l2, at8_in s p4 l4]
      have HW4 := hide hw4
      clear hor hw4
      generalize (s[p]'(by omega)).toNat * 16777216 + (s[p1]'l1).toNat * 65536 + (s[p2]'l2).toNat * 256 + (s[p4]'l4).toNat = y at HW4 ⊢
      go_wp2
      refine ⟨⟨k + 1, by omega, by go_num, ?_, ?_, ?_⟩, by simp [intOf]; omega⟩
      · exact ((unhide H0).other (by simp)).drew
      · exact ((unhide H1).step (by omega) (unhide HW4)).drew
      · exact ((unhide HB).setCell (by simp) _).drew
    · obtain rfl : k = 16 := by omega
      have H0 := hide h0
      have H1 := hide (h1.congr (g := wsW s 0) (fun i _ => rfl))
      have HB := hide hB
      clear h0 h1 hB
      rw [show ((16 : Nat) : Int) = (16 : Int) from rfl]
      go_wp2_with fail
      go_loopw [6] (fun iv wx => ∃ j : Nat, j ≤ 48 ∧ iv = .int .i64 ((j : Int) + 16) ∧ Aw wx w.heap.size 0 64 (fun _ => 0) ∧ Aw wx (w.heap.size + 1) 0 64 (wsW s j) ∧ Below w.heap.size w wx) (fun iv _ => 64 - (intOf iv).toNat)
      case atStart => exact ⟨0, by omega, rfl, unhide H0, unhide H1, unhide HB⟩
      case round =>
        obtain ⟨j, hj, rfl, h0, h1, hB⟩ := hrel
        by_cases hlt : j < 48
        · have c0 := h1.c0 j (by omega)
          have c1 := h1.c0 (j + 1) (by omega)
          have c9 := h1.c0 (j + 9) (by omega)
          have c14 := h1.c0 (j + 14) (by omega)
          have c16 := h1.c0 (j + 16) (by omega)
          have f16 := h1.f0 (j + 16) (by omega)
          have b0 := wsW_lt s j j
          have b1 := wsW_lt s j (j + 1)
          have b9 := wsW_lt s j (j + 9)
          have b14 := wsW_lt s j (j + 14)
          have HS := hide (wsW_step s j)
          have H0 := hide h0
          have H1 := hide h1
          have HB := hide hB
          clear h0 h1 hB
          generalize wsW s j j = x0 at *
          generalize wsW s j (j + 1) = x1 at *
          generalize wsW s j (j + 9) = x9 at *
          generalize wsW s j (j + 14) = x14 at *
          generalize wsW s j (j + 16) = x16 at *
          obtain ⟨q, hq⟩ : ∃ q, q = j + 16 := ⟨_, rfl⟩
          obtain ⟨j1, hj1⟩ : ∃ q, q = j + 1 := ⟨_, rfl⟩
          obtain ⟨j9, hj9⟩ : ∃ q, q = j + 9 := ⟨_, rfl⟩
          obtain ⟨j14, hj14⟩ : ∃ q, q = j + 14 := ⟨_, rfl⟩
          rw [← hq] at c16 f16
          rw [← hj1] at c1
          rw [← hj9] at c9
          rw [← hj14] at c14
          have hqi : (j : Int) + 16 = (q : Int) := by omega
          rw [hqi]
          have v15 : IntKind.i64.wrap ((q : Int) - 15) = (j1 : Int) := by rw [show (q : Int) - 15 = (j1 : Int) by omega]; exact wraps_i64 _ (by omega) (by omega)
          have v2 : IntKind.i64.wrap ((q : Int) - 2) = (j14 : Int) := by rw [show (q : Int) - 2 = (j14 : Int) by omega]; exact wraps_i64 _ (by omega) (by omega)
          have v16 : IntKind.i64.wrap ((q : Int) - 16) = (j : Int) := by rw [show (q : Int) - 16 = (j : Int) by omega]; exact wraps_i64 _ (by omega) (by omega)
          have v7 : IntKind.i64.wrap ((q : Int) - 7) = (j9 : Int) := by rw [show (q : Int) - 7 = (j9 : Int) by omega]; exact wraps_i64 _ (by omega) (by omega)
          have m0 : (j : Int) < 64 := by omega
          have m1 : (j1 : Int) < 64 := by omega
          have m9 : (j9 : Int) < 64 := by omega
          have m14 : (j14 : Int) < 64 := by omega
          have mq : (q : Int) < 64 := by omega
          have HQ := hide (And.intro hqi hq)
          clear hq hj1 hj9 hj14 hqi
          have T7 : Hid (∀ W, Calls Tryd.prog 98 #[.int .u32 (x1 : Nat), .int .i64 7] W fun e w' => e = .returned (.int .u32 (rr x1 7 : Nat)) ∧ w' = W) := fun W => implTurned x1 7 b1 (by omega) (by omega) W
          have T18 : Hid (∀ W, Calls Tryd.prog 98 #[.int .u32 (x1 : Nat), .int .i64 18] W fun e w' => e = .returned (.int .u32 (rr x1 18 : Nat)) ∧ w' = W) := fun W => implTurned x1 18 b1 (by omega) (by omega) W
          have T17 : Hid (∀ W, Calls Tryd.prog 98 #[.int .u32 (x14 : Nat), .int .i64 17] W fun e w' => e = .returned (.int .u32 (rr x14 17 : Nat)) ∧ w' = W) := fun W => implTurned x14 17 b14 (by omega) (by omega) W
          have T19 : Hid (∀ W, Calls Tryd.prog 98 #[.int .u32 (x14 : Nat), .int .i64 19] W fun e w' => e = .returned (.int .u32 (rr x14 19 : Nat)) ∧ w' = W) := fun W => implTurned x14 19 b14 (by omega) (by omega) W
          have E0 := hide (lS0I x1 b1)
          have E1 := hide (lS1I x14 b14)
          have Y0 := lS0_lt x1 b1
          have Y1 := lS1_lt x14 b14
          generalize rr x1 7 = r7 at *
          generalize rr x1 18 = r18 at *
          generalize rr x14 17 = r17 at *
          generalize rr x14 19 = r19 at *
          go_wp2_with fail
          go_quiet (fail)
          go_wp2_with (first
            | (go_at_call 98; with_reducible refine (unhide T7 _).mono ?_; rintro e w9 ⟨rfl, h9⟩; subst h9)
            | (go_at_call 98; with_reducible refine (unhide T18 _).mono ?_; rintro e w9 ⟨rfl, h9⟩; subst h9)
            | (go_at_call 98; with_reducible refine (unhide T17 _).mono ?_; rintro e w9 ⟨rfl, h9⟩; subst h9)
            | (go_at_call 98; with_reducible refine (unhide T19 _).mono ?_; rintro e w9 ⟨rfl, h9⟩; subst h9))
          rw [unhide E0, unhide E1]
          clear E0 E1 T7 T18 T17 T19 c1 c14
          generalize lS0 x1 = y0 at *
          generalize lS1 x14 = y1 at *
          replace H0 := hide ((unhide H0).drewN nq)
          replace H1 := hide ((unhide H1).drewN nq)
          replace HB := hide (Below.drewN' (unhide HB) nq)
          replace c0 : (wr.drewN nq).cell? ⟨w.heap.size + 1, j, none⟩ = some (.int .u32 (x0 : Nat)) := c0
          replace c9 : (wr.drewN nq).cell? ⟨w.heap.size + 1, j9, none⟩ = some (.int .u32 (x9 : Nat)) := c9
          replace c16 : (wr.drewN nq).cell? ⟨w.heap.size + 1, q, none⟩ = some (.int .u32 (x16 : Nat)) := c16
          replace f16 : (wr.drewN nq).frozen? ⟨w.heap.size + 1, q, none⟩ = false := f16
          generalize wr.drewN nq = Wa at H0 H1 HB c0 c9 c16 f16 ⊢
          have S0 : Hid (Wa.drew.cell? ⟨w.heap.size + 1, j, none⟩ = some (.int .u32 (x0 : Nat)) ∧ Wa.drew.cell? ⟨w.heap.size + 1, j9, none⟩ = some (.int .u32 (x9 : Nat))) := ⟨c0, c9⟩
          have hnq : Hid (j ≠ q ∧ j9 ≠ q) := by
            obtain ⟨hqi, hq⟩ := unhide HQ
            have : (j9 : Int) = (q : Int) - 7 := by rw [← v7]; exact wraps_i64 _ (by omega) (by omega)
            exact (show j ≠ q ∧ j9 ≠ q by omega)
          have S1 : Hid (∀ v, (Wa.drew.setCell ⟨w.heap.size + 1, q, none⟩ v).cell? ⟨w.heap.size + 1, j, none⟩ = some (.int .u32 (x0 : Nat)) ∧ (Wa.drew.setCell ⟨w.heap.size + 1, q, none⟩ v).cell? ⟨w.heap.size + 1, j9, none⟩ = some (.int .u32 (x9 : Nat))) := fun v => by
            have hn9 := unhide hnq
            rw [World.cell?_setCell_other _ _ _ _ (by intro e; simp at e <;> omega), World.cell?_setCell_other _ _ _ _ (by intro e; simp at e <;> omega)]
            exact ⟨c0, c9⟩
          go_region_held3 (fun W => W.cell? ⟨w.heap.size + 1, j, none⟩ = some (.int .u32 (x0 : Nat)) ∧ W.cell? ⟨w.heap.size + 1, j9, none⟩ = some (.int .u32 (x9 : Nat))) (first | assumption | exact unhide S0 | exact unhide S1 _) (fail)
          go_wp2
          obtain ⟨hqi, hq⟩ := unhide HQ
          have eY : ((((x0 : Int) + (y0 : Int)) % 4294967296 + (x9 : Int)) % 4294967296 + (y1 : Int)) % 4294967296 = (((x0 + y0 + x9 + y1) % 4294967296 : Nat) : Int) := by omega
          rw [← hq] at HS
          rw [eY]
          refine ⟨⟨j + 1, by omega, by rw [← hqi]; go_num, ?_, ?_, ?_⟩, by simp [intOf]; omega⟩
          · exact ((unhide H0).other (by simp)).drew
          · exact ((unhide H1).put0 (k := q) (by omega) (unhide HS) (fun i _ hne => by rw [wsW, if_neg (by omega)])).drew
          · exact ((unhide HB).setCell (by simp) _).drew
        · obtain rfl : j = 48 := by omega
          have H0 := hide h0
          have H1 := hide h1
          have HB := hide hB
          clear h0 h1 hB
          go_upto_region 15 with fail
          refine wp_region_list ?_
          generalize hr : wsW s 48 = r at H1 ⊢
          refine wpList_load_mid rfl 104 (.tmp 3) rfl (w.heap.size + 1) 0 rfl (uw 64 r) _ (unhide H1).range Tryd.underlying104 rfl (by rw [uw_length]; exact info_64) ?_
          refine wpList_store_mid rfl 104 (.tmp 2) (.tmp 87) rfl w.heap.size 0 (uw 64 r).toArray rfl rfl (by rw [uw_size]; exact (unhide H0).there) (by rw [uw_size]; exact info_64) (uw_one _ _) ?_
          refine wpList_nil ?_
          have HH := hide ((unhide H0).puts (g := r))
          clear H1 H0
          go_wp2
          refine ret_arr_w 2 w.heap.size 64 104 _ r ?r1 ?r2 ?r3 (unhide HH) Tryd.underlying104 rfl info_64 ?_
          case r1 => rfl
          case r2 => rfl
          case r3 => rfl
          exact ⟨by rw [hr], Go.Proofs.YtpjmnnaiegdjmaaDoor.below_setCells (by omega) _ _ _ (unhide HB)⟩
end Go.Proofs.YtpjmnnaiegdjmaaDoor
