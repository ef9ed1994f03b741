/-
  Blocks as elements of the field: products of texts do not hang on order and brackets, and go with xor.
-/
import Derived.Test.YtgoafbhhihfkfaaL5g
import Derived.Test.YtgoafbhhihfkfaaE5aX
import Derived.Test.YtgoafbhhihfkfaaXot
namespace Go.Proofs.Ytgoafbhhihfkfaa
open Go.ChangeShapes Go.WideShapes Go.ChangeAt Go.RowKit
set_option linter.unusedVariables false

/-- a block as a number -/
def blN (s : ByteArray) : Nat := cm (hiW s) (loW s)
theorem blN_lt (s : ByteArray) : blN s < 2 ^ 128 := cm_lt _ _ (hiW_lt s) (loW_lt s)
theorem nbF_cong (f g : Nat → Nat) : ∀ k, (∀ i, i < k → f i = g i) → nbF f k = nbF g k
  | 0, _ => rfl
  | k + 1, h => by rw [nbF, nbF, nbF_cong f g k (fun i hi => h i (by omega)), h k (by omega)]
/-- a word from its bytes -/
theorem nbF_byN (h : Nat) (hh : h < 18446744073709551616) : nbF (fun i => byN h (7 - i)) 8 = h := by
  show (((((((0 * 256 + byN h 7) * 256 + byN h 6) * 256 + byN h 5) * 256 + byN h 4) * 256 + byN h 3) * 256 + byN h 2) * 256 + byN h 1) * 256 + byN h 0 = h
  unfold byN
  omega
theorem hi_tl (h l : Nat) (hh : h < 18446744073709551616) : hiW (tlW h l) = h := by
  rw [← nbF_hi _ (tlW_size _ _), tlW_bq]
  rw [nbF_cong _ (fun i => byN h (7 - i)) 8 (fun i hi => by rw [at8_bq 16 _ i (by omega) (blF_lt _ _ _)]; unfold blF; rw [if_pos hi])]
  exact nbF_byN h hh
theorem lo_tl (h l : Nat) (hl : l < 18446744073709551616) : loW (tlW h l) = l := by
  rw [← nbF_lo _ (tlW_size _ _), tlW_bq]
  rw [nbF_cong _ (fun i => byN l (7 - i)) 8 (fun i hi => by rw [at8_bq 16 _ (8 + i) (by omega) (blF_lt _ _ _)]; unfold blF; rw [if_neg (by omega), show 15 - (8 + i) = 7 - i by omega])]
  exact nbF_byN l hl
theorem byN_nbF (f : Nat → Nat) (hf : ∀ i, f i < 256) (i : Nat) (hi : i < 8) : byN (nbF f 8) (7 - i) = f i := by
  have h0 := hf 0
  have h1 := hf 1
  have h2 := hf 2
  have h3 := hf 3
  have h4 := hf 4
  have h5 := hf 5
  have h6 := hf 6
  have h7 := hf 7
  have e : nbF f 8 = (((((((0 * 256 + f 0) * 256 + f 1) * 256 + f 2) * 256 + f 3) * 256 + f 4) * 256 + f 5) * 256 + f 6) * 256 + f 7 := rfl
  rw [e]
  unfold byN
  have hc : i = 0 ∨ i = 1 ∨ i = 2 ∨ i = 3 ∨ i = 4 ∨ i = 5 ∨ i = 6 ∨ i = 7 := by omega
  rcases hc with rfl | rfl | rfl | rfl | rfl | rfl | rfl | rfl <;> simp <;> omega
theorem tl_of (s : ByteArray) (hs : s.size = 16) : tlW (hiW s) (loW s) = s := by
  rw [tlW_bq, ← nbF_hi s hs, ← nbF_lo s hs]
  have e := bq_at8 s
  rw [hs] at e
  refine Eq.trans (bq_congr (fun i hi => ?_)) e
  unfold blF
  by_cases h : i < 8
  · rw [if_pos h, byN_nbF (at8 s) (at8_lt s) i h]
  · rw [if_neg h]
    have := byN_nbF (fun i => at8 s (8 + i)) (fun i => at8_lt s _) (i - 8) (by omega)
    rw [show 7 - (i - 8) = 15 - i by omega] at this
    rw [this]
    congr 1
    omega
theorem blN_inj (a b : ByteArray) (ha : a.size = 16) (hb : b.size = 16) (h : blN a = blN b) : a = b := by
  obtain ⟨h1, h2⟩ := cm_inj _ _ _ _ (loW_lt a) (loW_lt b) h
  rw [← tl_of a ha, ← tl_of b hb, h1, h2]
theorem blN_mb (a b : ByteArray) : blN (mbW a b) = gm (blN a) (blN b) := by
  have hl := ouP_lt (hiW a) (loW a) (hiW b) (loW b) (hiW_lt b) (loW_lt b) 128
  unfold blN mbW
  rw [hi_tl _ _ hl.1, lo_tl _ _ hl.2, cm_ouP _ _ _ _ (loW_lt a) (hiW_lt b) (loW_lt b)]
/-- bytes xored are words xored -/
theorem nb_xor (f g : Nat → Nat) (hf : ∀ i, f i < 256) (hg : ∀ i, g i < 256) : ∀ k, nbF (fun i => f i ^^^ g i) k = nbF f k ^^^ nbF g k
  | 0 => by simp [nbF]
  | k + 1 => by
    rw [nbF, nbF, nbF, nb_xor f g hf hg k]
    have e : ∀ n c : Nat, c < 256 → n * 256 + c = 2 ^ 8 * n + c := fun n c _ => by omega
    rw [e _ _ (xor_lt _ _ (hf k) (hg k)), e _ _ (hf k), e _ _ (hg k)]
    apply Nat.eq_of_testBit_eq
    intro j
    rw [Nat.testBit_xor, Nat.testBit_two_pow_mul_add _ (xor_lt _ _ (hf k) (hg k)) j, Nat.testBit_two_pow_mul_add _ (hf k) j, Nat.testBit_two_pow_mul_add _ (hg k) j, Nat.testBit_xor, Nat.testBit_xor]
    split <;> rfl
theorem xo_at (a b : ByteArray) (i : Nat) (hi : i < a.size) : at8 (xoW a b) i = at8 a i ^^^ at8 b i := at8_bq _ _ i hi (xor_lt _ _ (at8_lt a i) (at8_lt b i))
theorem blN_xo (a b : ByteArray) (ha : a.size = 16) (hb : b.size = 16) : blN (xoW a b) = blN a ^^^ blN b := by
  have hx : (xoW a b).size = 16 := by rw [xoW_size, ha]
  unfold blN
  rw [cm_xor _ _ _ _ (loW_lt a) (loW_lt b), ← nbF_hi _ hx, ← nbF_lo _ hx, ← nbF_hi a ha, ← nbF_hi b hb, ← nbF_lo a ha, ← nbF_lo b hb, ← nb_xor _ _ (at8_lt a) (at8_lt b), ← nb_xor _ _ (fun i => at8_lt a _) (fun i => at8_lt b _)]
  rw [nbF_cong _ (fun i => at8 a i ^^^ at8 b i) 8 (fun i hi => xo_at a b i (by omega)), nbF_cong (fun i => at8 (xoW a b) (8 + i)) (fun i => at8 a (8 + i) ^^^ at8 b (8 + i)) 8 (fun i hi => xo_at a b (8 + i) (by omega))]
theorem mb_comm (a b : ByteArray) : mbW b a = mbW a b := blN_inj _ _ (mbW_size _ _) (mbW_size _ _) (by rw [blN_mb, blN_mb, gm_comm _ _ (blN_lt b) (blN_lt a)])
theorem mb_assoc (a b c : ByteArray) : mbW (mbW a b) c = mbW a (mbW b c) := blN_inj _ _ (mbW_size _ _) (mbW_size _ _) (by rw [blN_mb, blN_mb, blN_mb, blN_mb, gm_assoc _ _ _ (blN_lt a) (blN_lt b) (blN_lt c)])
theorem mb_xor (a b c : ByteArray) (hb : b.size = 16) (hc : c.size = 16) : mbW a (xoW b c) = xoW (mbW a b) (mbW a c) :=
  blN_inj _ _ (mbW_size _ _) (by rw [xoW_size, mbW_size]) (by rw [blN_mb, blN_xo b c hb hc, gm_right, blN_xo _ _ (mbW_size _ _) (mbW_size _ _), blN_mb, blN_mb])
set_option maxRecDepth 100000 in
set_option maxHeartbeats 1000000 in
theorem lawXored (a b : ByteArray) (h : a.size ≤ b.size) (hl : b.size ≤ 10000) (w : World) :
    Calls Try.prog 12 #[.string a, .string b] w fun e w' => e = .returned (.string (xoW a b)) ∧ Below w.heap.size w w' := by
  unfold xoW
  have E : ∀ i, (fun i => at8 a i ^^^ at8 b i) i = at8 a i ^^^ at8 b i := fun i => rfl
  generalize (fun i => at8 a i ^^^ at8 b i) = r at E ⊢
  have HE := hide E
  have HL : Hid (∀ i, r i < 256) := fun i => by rw [E]; exact xor_lt _ _ (at8_lt a i) (at8_lt b i)
  clear E
  obtain ⟨n, ha⟩ : ∃ n : Nat, a.size = n := ⟨_, rfl⟩
  rw [ha] at h
  go_enter Try.func12, Try.ntmps12
  go_wp2_with fail
  obtain ⟨cap, W, hcv, hbW, hcW, hsz⟩ := conv_ar w a
  rw [hcv, ha]
  rw [ha] at hcW
  have B1 := hide hbW
  have A1 := hide hcW
  clear hcv hcW hbW hsz
  go_wp2_with fail
  go_loopw [11] (fun iv wr => ∃ i : Nat, i ≤ n ∧ iv = .int .i64 i ∧ Ar wr w.heap.size 0 n (stp r (at8 a) i) ∧ Below w.heap.size w wr) (fun iv _ => n - (intOf iv).toNat)
  case atStart => exact ⟨0, by omega, rfl, (unhide A1).stepNone, unhide B1⟩
  case round =>
    obtain ⟨i, hi, rfl, a1, b1⟩ := hrel
    clear A1 B1
    by_cases hlt : i < n
    · have s0 := a1.c0 i hlt
      have f0 := a1.f0 i hlt
      have e0 : stp r (at8 a) i i = at8 a i := by simp [stp]
      rw [e0] at s0
      have e2 := hide (unhide HE i)
      have HA1 := hide a1
      have HB1 := hide b1
      have hib : i < b.size := by omega
      have x1 := xorI (at8 a i) (at8 b i) (at8_lt a i) (at8_lt b i)
      rw [at8_in b i hib] at x1 e2
      have e1 := hide x1
      have hya := at8_lt a i
      clear a1 b1 e0 x1
      generalize at8 a i = x at *
      have n1 : (0 : Int) ≤ (i : Int) ∧ (i : Int) < n := by omega
      have n2 : (0 : Int) ≤ (i : Int) ∧ (i : Int) < (b.size : Int) := by omega
      have hy : b[i].toNat < 256 := UInt8.toNat_lt _
      go_wp2_with fail
      go_region
      go_wp2
      rw [unhide e1]
      exact ⟨⟨i + 1, by omega, by go_num, ((unhide HA1).step hlt (unhide e2)).drew, ((unhide HB1).setCell (by simp) _).drew⟩, by simp [intOf]; omega⟩
    · have e : i = n := by omega
      subst e
      have hst := ar_string (a1.stepEnd) (fun i _ => unhide HL i) cap
      have B9 := hide b1
      clear a1 b1
      go_wp2
      go_ret
      rw [ha]
      exact ⟨rfl, unhide B9⟩
end Go.Proofs.Ytgoafbhhihfkfaa
