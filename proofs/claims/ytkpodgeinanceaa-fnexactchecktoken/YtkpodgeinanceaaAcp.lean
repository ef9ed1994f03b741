/-
  Contracts: a block that counts, the program's.
-/
import Derived.Test.YtkpodgeinanceaaAbf
namespace Go.Proofs.Ytkpodgeinanceaa
open Go.ChangeShapes Go.WideShapes Go.ChangeAt Go.RowKit
set_option linter.unusedVariables false
set_option maxRecDepth 100000

/-- the byte k of a number -/
def byV (v k : Nat) : Nat := v / 256 ^ k % 256
theorem byV_lt (v k : Nat) : byV v k < 256 := Nat.mod_lt _ (by omega)
/-- the number in the last four bytes -/
def nb4 (f : Nat → Nat) : Nat := f 12 * 16777216 + f 13 * 65536 + f 14 * 256 + f 15
/-- a block that has counted n further -/
def plB (f : Nat → Nat) (n i : Nat) : Nat := if i < 12 then f i else byV (nb4 f + n) (15 - i)
theorem plB_def (f : Nat → Nat) (n i : Nat) : plB f n i = if i < 12 then f i else byV (nb4 f + n) (15 - i) := by unfold plB; rfl
theorem plB_lt (f : Nat → Nat) (hf : ∀ i, f i < 256) (n i : Nat) : plB f n i < 256 := by
  unfold plB
  split
  · exact hf i
  · exact byV_lt _ _
theorem byV_eq (a b : Nat) (h : ∀ k, k < 4 → byV a k = byV b k) : a % 4294967296 = b % 4294967296 := by
  have h0 := h 0 (by omega)
  have h1 := h 1 (by omega)
  have h2 := h 2 (by omega)
  have h3 := h 3 (by omega)
  unfold byV at h0 h1 h2 h3
  omega
theorem plB_ne (s : Nat → Nat) (j N : Nat) (hj : j < N) (hN : N ≤ 100000) : ∃ i, i < 16 ∧ plB s j i ≠ plB s N i := by
  refine Classical.byContradiction fun hno => ?_
  have h : ∀ i, i < 16 → plB s j i = plB s N i := fun i hi => Classical.byContradiction fun h9 => hno ⟨i, hi, h9⟩
  have h2 := byV_eq (nb4 s + j) (nb4 s + N) (fun k hk => by
    have h3 := h (15 - k) (by omega)
    unfold plB at h3
    rw [if_neg (by omega), if_neg (by omega), show 15 - (15 - k) = k by omega] at h3
    exact h3)
  omega
theorem plB_zero (s : Nat → Nat) (hs : ∀ i, s i < 256) (i : Nat) (hi : i < 16) : plB s 0 i = s i := by
  unfold plB
  by_cases e : i < 12
  · rw [if_pos e]
  · rw [if_neg e]
    have h12 := hs 12
    have h13 := hs 13
    have h14 := hs 14
    have h15 := hs 15
    have h : i = 12 ∨ i = 13 ∨ i = 14 ∨ i = 15 := by omega
    unfold byV nb4
    rcases h with rfl | rfl | rfl | rfl
    · show (s 12 * 16777216 + s 13 * 65536 + s 14 * 256 + s 15 + 0) / 256 ^ 3 % 256 = s 12
      omega
    · show (s 12 * 16777216 + s 13 * 65536 + s 14 * 256 + s 15 + 0) / 256 ^ 2 % 256 = s 13
      omega
    · show (s 12 * 16777216 + s 13 * 65536 + s 14 * 256 + s 15 + 0) / 256 ^ 1 % 256 = s 14
      omega
    · show (s 12 * 16777216 + s 13 * 65536 + s 14 * 256 + s 15 + 0) / 256 ^ 0 % 256 = s 15
      omega
theorem nb4_plB (s : Nat → Nat) (j : Nat) : nb4 (plB s j) = (nb4 s + j) % 4294967296 := by
  have e12 : plB s j 12 = byV (nb4 s + j) 3 := by unfold plB; rw [if_neg (by omega)]
  have e13 : plB s j 13 = byV (nb4 s + j) 2 := by unfold plB; rw [if_neg (by omega)]
  have e14 : plB s j 14 = byV (nb4 s + j) 1 := by unfold plB; rw [if_neg (by omega)]
  have e15 : plB s j 15 = byV (nb4 s + j) 0 := by unfold plB; rw [if_neg (by omega)]
  generalize hg : plB s j = g at *
  have hd : nb4 g = g 12 * 16777216 + g 13 * 65536 + g 14 * 256 + g 15 := by unfold nb4; rfl
  rw [hd, e12, e13, e14, e15]
  generalize nb4 s + j = a
  unfold byV
  omega
theorem plB_next (s : Nat → Nat) (j i : Nat) : plB (plB s j) 1 i = plB s (j + 1) i := by
  rw [plB_def (plB s j) 1 i, nb4_plB]
  by_cases e : i < 12
  · rw [if_pos e, plB_def s j i, if_pos e, plB_def s (j + 1) i, if_pos e]
  · rw [if_neg e, plB_def s (j + 1) i, if_neg e, ← Nat.add_assoc]
    generalize nb4 s + j = a
    have h : 15 - i = 0 ∨ 15 - i = 1 ∨ 15 - i = 2 ∨ 15 - i = 3 := by omega
    unfold byV
    rcases h with h | h | h | h <;> rw [h] <;> omega
/-- what is carried behind j bytes -/
def crr (f : Nat → Nat) (n : Nat) : Nat → Nat
  | 0 => n
  | j + 1 => (crr f n j + f (15 - j)) / 256
theorem crr_le (f : Nat → Nat) (n : Nat) (hf : ∀ i, f i < 256) (hn : n ≤ 100000) : ∀ j, crr f n j ≤ 100000
  | 0 => hn
  | j + 1 => by
    have h1 := crr_le f n hf hn j
    have h2 := hf (15 - j)
    unfold crr
    omega
/-- a block of which j bytes have counted -/
def plj (f : Nat → Nat) (n j i : Nat) : Nat := if 16 - j ≤ i ∧ i < 16 then (crr f n (15 - i) + f i) % 256 else f i
theorem plj_none (f : Nat → Nat) (n i : Nat) (h : i < 16) : plj f n 0 i = f i := by unfold plj; rw [if_neg (by omega)]
theorem plj_here (f : Nat → Nat) (n j : Nat) (h : j < 4) : plj f n (j + 1) (15 - j) = (crr f n j + f (15 - j)) % 256 := by
  unfold plj
  rw [if_pos (by omega), show 15 - (15 - j) = j by omega]
theorem plj_other (f : Nat → Nat) (n j i : Nat) (h : j < 4) (hi : i < 16) (hne : i ≠ 15 - j) : plj f n (j + 1) i = plj f n j i := by
  unfold plj
  by_cases e : 16 - j ≤ i ∧ i < 16
  · rw [if_pos e, if_pos (by omega)]
  · rw [if_neg e, if_neg (by omega)]
theorem plj_end (f : Nat → Nat) (n i : Nat) (hi : i < 16) : plj f n 4 i = plB f n i := by
  unfold plj plB
  by_cases e : i < 12
  · rw [if_neg (by omega), if_pos e]
  · rw [if_pos (by omega), if_neg e]
    have h : i = 12 ∨ i = 13 ∨ i = 14 ∨ i = 15 := by omega
    rcases h with rfl | rfl | rfl | rfl
    · show ((((n + f 15) / 256 + f 14) / 256 + f 13) / 256 + f 12) % 256 = byV (nb4 f + n) 3
      unfold byV nb4
      omega
    · show (((n + f 15) / 256 + f 14) / 256 + f 13) % 256 = byV (nb4 f + n) 2
      unfold byV nb4
      omega
    · show ((n + f 15) / 256 + f 14) % 256 = byV (nb4 f + n) 1
      unfold byV nb4
      omega
    · show (n + f 15) % 256 = byV (nb4 f + n) 0
      unfold byV nb4
      omega
set_option maxRecDepth 100000 in
set_option maxHeartbeats 1000000 in
theorem implPlus (f : Nat → Nat) (n : Nat) (hf : ∀ i, f i < 256) (hn : n ≤ 100000) (w : World) :
    Calls Try.prog 52 #[.agg (us 16 f).toArray, .int .i64 n] w fun e w' => e = .returned (.agg (us 16 (plB f n)).toArray) ∧ Below w.heap.size w w' := by
  have HF := hide hf
  go_enter Try.func52, Try.ntmps52
  have HCR := hide (crr_le f n hf hn)
  have HPE := hide (fun i (h : i < 16) => plj_end f n i h)
  have a1 := (Ar.new w 16 f 84).alloc (.cells #[.int .u8 0, .int .u8 0, .int .u8 0, .int .u8 0, .int .u8 0, .int .u8 0, .int .u8 0, .int .u8 0, .int .u8 0, .int .u8 0, .int .u8 0, .int .u8 0, .int .u8 0, .int .u8 0, .int .u8 0, .int .u8 0] 84)
  have a2 := z16_new (w.alloc (.cells (us 16 f).toArray 84)) 84
  rw [World.size_alloc] at a2
  have a3 := ((Below.refl w.heap.size w).alloc (Nat.le_refl _) (.cells (us 16 f).toArray 84)).alloc (by simp) (.cells #[.int .u8 0, .int .u8 0, .int .u8 0, .int .u8 0, .int .u8 0, .int .u8 0, .int .u8 0, .int .u8 0, .int .u8 0, .int .u8 0, .int .u8 0, .int .u8 0, .int .u8 0, .int .u8 0, .int .u8 0, .int .u8 0] 84)
  have A1 : Hid (Ar _ w.heap.size 0 16 (plj f n 0)) := a1.congr (fun i hi => (plj_none f n i hi).symm)
  have A2 := hide a2
  have A3 := hide a3
  clear a1 a2 a3
  go_wp2_with fail
  go_loopw [1, 5] (fun nv iv wr => ∃ j : Nat, j ≤ 4 ∧ nv = .int .i64 (crr f n j : Nat) ∧ iv = .int .i64 (15 - (j : Int)) ∧ Ar wr w.heap.size 0 16 (plj f n j) ∧ Ar wr (w.heap.size + 1) 0 16 (fun _ => 0) ∧ Below w.heap.size w wr) (fun _ iv _ => (intOf iv).toNat)
  case atStart => exact ⟨0, by omega, rfl, rfl, unhide A1, unhide A2, unhide A3⟩
  case round =>
    obtain ⟨j, hj, rfl, rfl, h1, h2, h3⟩ := hrel
    clear A1 A2 A3
    by_cases hlt : j < 4
    · obtain ⟨k, hk⟩ : ∃ k : Nat, k = 15 - j := ⟨_, rfl⟩
      have hkI : 15 - (j : Int) = (k : Int) := by omega
      rw [hkI]
      have hk16 : k < 16 := by omega
      have hk12 : (12 : Int) ≤ (k : Int) := by omega
      have hc := h1.c0 k hk16
      have hfz := h1.f0 k hk16
      have e0 : plj f n j k = f k := by unfold plj; rw [if_neg (by omega)]
      rw [e0] at hc
      have hcj := unhide HCR j
      have hfk := unhide HF k
      have hcs : crr f n (j + 1) = (crr f n j + f k) / 256 := by rw [hk]; rfl
      have A1 := hide (h1.put0 (g := plj f n (j + 1)) (k := k) (x := (crr f n j + f k) % 256) hk16 (by rw [hk]; exact plj_here f n j hlt) (fun i hi hne => plj_other f n j i hlt hi (by omega)))
      have A2 := hide (h2.other (a := ⟨w.heap.size, k, none⟩) (v := .int .u8 (((crr f n j + f k) % 256 : Nat) : Int)) (by show w.heap.size ≠ w.heap.size + 1; omega))
      have A3 := hide (h3.setCell (p := ⟨w.heap.size, k, none⟩) (Nat.le_refl _) (.int .u8 (((crr f n j + f k) % 256 : Nat) : Int)))
      rw [show (((crr f n j + f k) % 256 : Nat) : Int) = ((crr f n j : Int) + (f k : Int)) % 256 by omega] at A1 A2 A3
      have HKI := hide (And.intro hk hkI)
      have HCS := hide hcs
      clear h1 h2 h3 e0 hk hkI hcs
      generalize f k = y at *
      generalize crr f n j = x at *
      go_wp2
      exact ⟨⟨j + 1, by omega, by rw [unhide HCS]; congr 1, by obtain ⟨_, h2⟩ := unhide HKI; congr 1; omega, unhide A1, unhide A2, unhide A3⟩, by simp [intOf]; omega⟩
    · obtain rfl : j = 4 := by omega
      have h4 := h1.congr (g := plB f n) (fun i hi => unhide HPE i hi)
      have h5 := h2.puts (g := plB f n)
      generalize hr : plB f n = r at *
      have HR := hide hr
      clear hr
      go_upto_region 7 with fail
      refine wp_region_list ?_
      refine wpList_load_mid rfl 84 (.tmp 2) rfl w.heap.size 0 rfl (us 16 r) _ h4.range Try.underlying84 rfl (by rw [us_length]; exact info_bl) ?_
      refine wpList_store_mid rfl 84 (.tmp 4) (.tmp 22) rfl (w.heap.size + 1) 0 (us 16 r).toArray rfl rfl (by rw [us_size]; exact h2.there) (by rw [us_size]; exact info_bl) (us_one _ _) ?_
      refine wpList_nil ?_
      have HB := hide h3
      clear h1 h2 h3 h4
      have HH := hide h5
      clear h5
      go_wp2
      refine ret_arr 4 (w.heap.size + 1) 16 84 _ r ?r1 ?r2 ?r3 (unhide HH) Try.underlying84 rfl info_bl ?_
      case r1 => rfl
      case r2 => rfl
      case r3 => rfl
      exact ⟨by rw [unhide HR], below_setCells (by omega) _ _ _ (unhide HB)⟩
end Go.Proofs.Ytkpodgeinanceaa
