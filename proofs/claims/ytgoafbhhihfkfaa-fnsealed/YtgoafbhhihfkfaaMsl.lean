/-
  No single bit turned leaves a tag as it was.
-/
import Derived.Test.YtgoafbhhihfkfaaMgh
import Derived.Test.YtgoafbhhihfkfaaFij
import Derived.Test.YtgoafbhhihfkfaaTrm
import Derived.Test.YtgoafbhhihfkfaaL5s
import Derived.Test.YtgoafbhhihfkfaaE5x
namespace Go.Proofs.Ytgoafbhhihfkfaa
open Go.ChangeShapes Go.WideShapes Go.ChangeAt Go.RowKit
set_option linter.unusedVariables false

theorem nbF_zero (f : Nat → Nat) : ∀ k, (∀ i, i < k → f i = 0) → nbF f k = 0
  | 0, _ => rfl
  | k + 1, h => by rw [nbF, nbF_zero f k (fun i hi => h i (by omega)), h k (by omega)]
theorem nbF_none (f : Nat → Nat) : ∀ k, nbF f k = 0 → ∀ i, i < k → f i = 0
  | 0, _, i, hi => by omega
  | k + 1, h, i, hi => by
    rw [nbF] at h
    by_cases e : i = k
    · rw [e]; omega
    · exact nbF_none f k (by omega) i (by omega)
theorem cm_00 : cm 0 0 = 0 := by unfold cm; omega
theorem cm_zero (a b : Nat) (h : cm a b = 0) : a = 0 ∧ b = 0 := by unfold cm at h; omega
theorem gh_single (kh kl : Nat) (h1 : kh < 18446744073709551616) (h2 : kl < 18446744073709551616) (hK : cm kh kl ≠ 0) (D : Nat → Nat) (hD : ∀ i, D i < 256) (p n : Nat) (hp : p < 16 * n) (hDp : D p ≠ 0) (hD0 : ∀ i, i < 16 * n → i ≠ p → D i = 0) : ghN kh kl D n ≠ 0 := by
  have z0 : ∀ j, j < n → j ≠ p / 16 → cm (bkH D j) (bkL D j) = 0 := fun j hj hne => by
    have e1 : bkH D j = 0 := nbF_zero _ 8 (fun i hi => hD0 _ (by omega) (by omega))
    have e2 : bkL D j = 0 := nbF_zero _ 8 (fun i hi => hD0 _ (by omega) (by omega))
    exact (congrArg (fun z => cm z (bkL D j)) e1).trans ((congrArg (cm 0) e2).trans cm_00)
  have zp : cm (bkH D (p / 16)) (bkL D (p / 16)) ≠ 0 := fun e => by
    obtain ⟨e1, e2⟩ := cm_zero _ _ e
    by_cases hq : p % 16 < 8
    · have := nbF_none _ 8 e1 (p % 16) hq
      try simp only at this
      rw [show 16 * (p / 16) + p % 16 = p by omega] at this
      exact hDp this
    · have := nbF_none _ 8 e2 (p % 16 - 8) (by omega)
      try simp only at this
      rw [show 16 * (p / 16) + (8 + (p % 16 - 8)) = p by omega] at this
      exact hDp this
  have before : ∀ j, j ≤ p / 16 → ghN kh kl D j = 0 := fun j => by
    induction j with
    | zero => intro _; exact cm_00
    | succ j ih =>
      intro hj
      rw [ghN_next kh kl D hD h1 h2, ih (by omega), z0 j (by omega) (by omega), Nat.xor_self, gm_zero]
  have behind : ∀ m, p / 16 + 1 + m ≤ n → ghN kh kl D (p / 16 + 1 + m) ≠ 0 := fun m => by
    induction m with
    | zero =>
      intro _ e
      rw [Nat.add_zero, ghN_next kh kl D hD h1 h2, before _ (Nat.le_refl _), Nat.zero_xor] at e
      exact zp (gm_none _ _ (cm_lt _ _ (bkH_lt D hD _) (bkL_lt D hD _)) (cm_lt _ _ h1 h2) e hK)
    | succ m ih =>
      intro hm e
      rw [← Nat.add_assoc, ghN_next kh kl D hD h1 h2, z0 _ (by omega) (by omega), Nat.xor_zero] at e
      exact ih (by omega) (gm_none _ _ (ghN_lt kh kl D h1 h2 _) (cm_lt _ _ h1 h2) e hK)
  have := behind (n - (p / 16 + 1)) (by omega)
  rw [show p / 16 + 1 + (n - (p / 16 + 1)) = n by omega] at this
  exact this
/-- a byte at one place alone -/
def spD (p d i : Nat) : Nat := if i = p then d else 0
theorem gh_turned (kh kl : Nat) (h1 : kh < 18446744073709551616) (h2 : kl < 18446744073709551616) (hK : cm kh kl ≠ 0) (f g : Nat → Nat) (hf : ∀ i, f i < 256) (p d n : Nat) (hp : p < 16 * n) (hd0 : 0 < d) (hd : d < 256) (hg : ∀ i, i < 16 * n → g i = if i = p then f i ^^^ d else f i) : ghN kh kl g n ≠ ghN kh kl f n := fun e => by
  have hs : ∀ i, spD p d i < 256 := fun i => by unfold spD; split <;> omega
  have e1 : ghN kh kl g n = ghN kh kl (fun i => f i ^^^ spD p d i) n := by
    unfold ghN
    rw [ghF_cong kh kl g (fun i => f i ^^^ spD p d i) n (fun i hi => by
      rw [hg i hi]
      unfold spD
      by_cases ei : i = p
      · rw [if_pos ei, if_pos ei]
      · rw [if_neg ei, if_neg ei, Nat.xor_zero])]
  rw [e1, ghN_xor kh kl f (spD p d) hf hs h1 h2] at e
  refine gh_single kh kl h1 h2 hK (spD p d) hs p n hp (by unfold spD; rw [if_pos rfl]; omega) (fun i _ hne => by unfold spD; rw [if_neg hne]) ?_
  have := congrArg (fun z => ghN kh kl f n ^^^ z) e
  simp only [xor_bck, Nat.xor_self] at this
  exact this
theorem tl_inj (a b c d : Nat) (ha : a < 18446744073709551616) (hb : b < 18446744073709551616) (hc : c < 18446744073709551616) (hd : d < 18446744073709551616) (h : ∀ i, i < 16 → blF a b i = blF c d i) : a = c ∧ b = d := by
  have e : tlW a b = tlW c d := by rw [tlW_bq, tlW_bq]; exact bq_congr h
  exact ⟨by rw [← hi_tl a b ha, ← hi_tl c d hc, e], by rw [← lo_tl a b hb, ← lo_tl c d hd, e]⟩
theorem bq_inj (n : Nat) (f g : Nat → Nat) (hf : ∀ i, f i < 256) (hg : ∀ i, g i < 256) (h : bq n f = bq n g) (i : Nat) (hi : i < n) : f i = g i := by
  rw [← at8_bq n f i hi (hf i), ← at8_bq n g i hi (hg i), h]
/-- tags with one nonce are alike only where the hashes are -/
theorem tg_hash (key nonce : ByteArray) (nb nc : Nat) (fb fc fb' fc' : Nat → Nat) (h : bq 16 (tgB key nonce nb nc fb fc) = bq 16 (tgB key nonce nb nc fb' fc')) : ghN (hkH key) (hkL key) (tgF nb nc fb fc) (flN nb / 16 + flN nc / 16 + 1) = ghN (hkH key) (hkL key) (tgF nb nc fb' fc') (flN nb / 16 + flN nc / 16 + 1) := by
  have h1 := tgP_lt key nb nc fb fc
  have h2 := tgP_lt key nb nc fb' fc'
  obtain ⟨e1, e2⟩ := tl_inj _ _ _ _ h1.1 h1.2 h2.1 h2.2 (fun i hi => xor_can _ _ (fw (rk (at8 key)) (plB (at8 nonce) 1) 10 i) (bq_inj 16 _ _ (tgB_lt key nonce nb nc fb fc) (tgB_lt key nonce nb nc fb' fc') h i hi))
  unfold tgP at e1 e2
  unfold ghN
  rw [e1, e2]
/-- a key of which the block of noughts is not the block of noughts -/
theorem hk_none (key : ByteArray) (h : bq 16 (hkF key) ≠ bq 16 (fun _ => 0)) : cm (hkH key) (hkL key) ≠ 0 := fun e => by
  obtain ⟨e1, e2⟩ := cm_zero _ _ e
  refine h (bq_congr (fun i hi => ?_))
  by_cases e : i < 8
  · exact nbF_none _ 8 e1 i e
  · have := nbF_none _ 8 e2 (i - 8) (by omega)
    try simp only at this
    rwa [show 8 + (i - 8) = i by omega] at this
theorem tag_covered (key nonce b c : ByteArray) (q d : Nat) (hq : q < c.size) (hd0 : 0 < d) (hd : d < 256) (hK : cm (hkH key) (hkL key) ≠ 0) : tgW key nonce b (tuW c q d) ≠ tgW key nonce b c := fun e => by
  unfold tgW at e
  rw [tuW_size] at e
  have h1 := (flN_le b.size)
  have h2 := (flN_le c.size)
  refine gh_turned (hkH key) (hkL key) (hkH_lt key) (hkL_lt key) hK (tgF b.size c.size (at8 b) (at8 c)) (tgF b.size c.size (at8 b) (at8 (tuW c q d))) (tgF_lt _ _ _ _ (at8_lt b) (at8_lt c)) (flN b.size + q) d (flN b.size / 16 + flN c.size / 16 + 1) (by omega) hd0 hd (fun i hi => ?_) (tg_hash key nonce _ _ _ _ _ _ e)
  unfold tgF
  by_cases e1 : i < flN b.size
  · rw [if_pos e1, if_pos e1, if_neg (by omega)]
  · rw [if_neg e1, if_neg e1]
    by_cases e2 : i < flN b.size + flN c.size
    · rw [if_pos e2, if_pos e2]
      unfold flF
      by_cases e3 : i - flN b.size < c.size
      · rw [if_pos e3, if_pos e3, tuW_at c q d hd _ e3]
        unfold tuB
        by_cases e4 : i = flN b.size + q
        · rw [if_pos (by omega), if_pos e4, show i - flN b.size = q by omega]
        · rw [if_neg (by omega), if_neg e4]
      · rw [if_neg e3, if_neg e3, if_neg (by omega)]
    · rw [if_neg e2, if_neg e2, if_neg (by omega)]
theorem tag_beside (key nonce b c : ByteArray) (q d : Nat) (hq : q < b.size) (hd0 : 0 < d) (hd : d < 256) (hK : cm (hkH key) (hkL key) ≠ 0) : tgW key nonce (tuW b q d) c ≠ tgW key nonce b c := fun e => by
  unfold tgW at e
  rw [tuW_size] at e
  have h1 := (flN_le b.size)
  refine gh_turned (hkH key) (hkL key) (hkH_lt key) (hkL_lt key) hK (tgF b.size c.size (at8 b) (at8 c)) (tgF b.size c.size (at8 (tuW b q d)) (at8 c)) (tgF_lt _ _ _ _ (at8_lt b) (at8_lt c)) q d (flN b.size / 16 + flN c.size / 16 + 1) (by omega) hd0 hd (fun i hi => ?_) (tg_hash key nonce _ _ _ _ _ _ e)
  unfold tgF
  by_cases e1 : i < flN b.size
  · rw [if_pos e1, if_pos e1]
    unfold flF
    by_cases e3 : i < b.size
    · rw [if_pos e3, if_pos e3, tuW_at b q d hd _ e3]
      unfold tuB
      by_cases e4 : i = q
      · rw [if_pos e4, if_pos e4, e4]
      · rw [if_neg e4, if_neg e4]
    · rw [if_neg e3, if_neg e3, if_neg (by omega)]
  · rw [if_neg e1, if_neg e1, if_neg (show ¬ i = q by omega)]
theorem tu_ne (s : ByteArray) (q d : Nat) (hq : q < s.size) (hd0 : 0 < d) (hd : d < 256) : at8 (tuW s q d) q ≠ at8 s q := fun e => by
  rw [tuW_at s q d hd q hq] at e
  unfold tuB at e
  rw [if_pos rfl] at e
  have := congrArg (fun z => at8 s q ^^^ z) e
  simp only [xor_bck, Nat.xor_self] at this
  omega
theorem tag_nonce (key nonce b c : ByteArray) (hn : nonce.size = 12) (q d : Nat) (hq : q < nonce.size) (hd0 : 0 < d) (hd : d < 256) : tgW key (tuW nonce q d) b c ≠ tgW key nonce b c := fun e => by
  unfold tgW at e
  have h := fun i hi => bq_inj 16 _ _ (tgB_lt key (tuW nonce q d) _ _ _ _) (tgB_lt key nonce _ _ _ _) e i hi
  have h2 : ∀ i, i < 16 → fw (rk (at8 key)) (plB (at8 (tuW nonce q d)) 1) 10 i = fw (rk (at8 key)) (plB (at8 nonce) 1) 10 i := fun i hi => by
    have := h i hi
    unfold tgB at this
    rw [Nat.xor_comm, Nat.xor_comm (blF _ _ _) (fw (rk (at8 key)) (plB (at8 nonce) 1) 10 i)] at this
    exact xor_can _ _ _ this
  have h3 := fw_inj (rk (at8 key)) _ _ (fun n i => rk_lt (at8 key) (at8_lt key) n i) (plB_lt _ (at8_lt _) 1) (plB_lt _ (at8_lt _) 1) 10 h2 q (by omega)
  unfold plB at h3
  rw [if_pos (by omega), if_pos (by omega)] at h3
  exact tu_ne nonce q d hq hd0 hd h3
/-- a text counted twice is itself -/
theorem cn_twice (key nonce t : ByteArray) : cnW key nonce (cnW key nonce t) = t := by
  have e : cnW key nonce (cnW key nonce t) = bq t.size (at8 t) := by
    show bq (cnW key nonce t).size (cnF key nonce (cnW key nonce t)) = _
    rw [cnW_size]
    refine bq_congr (fun i hi => ?_)
    unfold cnF
    rw [show at8 (cnW key nonce t) i = cnF key nonce t i from at8_bq _ _ i hi (cnF_lt key nonce t i)]
    unfold cnF
    rw [Nat.xor_assoc, Nat.xor_self, Nat.xor_zero]
  rw [e, bq_at8]
theorem se_head (key nonce b t : ByteArray) : (seW key nonce b t).extract 0 t.size = cnW key nonce t := by
  have hc := cnW_size key nonce t
  have hz : ((seW key nonce b t).extract 0 t.size).size = t.size := by rw [ByteArray.size_extract, seW_size]; omega
  rw [← bq_at8 ((seW key nonce b t).extract 0 t.size), hz, ← bq_at8 (cnW key nonce t), hc]
  refine bq_congr (fun i hi => ?_)
  rw [at8_extract _ 0 t.size i (by rw [seW_size]; omega) (by omega), Nat.zero_add]
  unfold seW
  rw [at8_append, hc, if_pos hi]
theorem se_tail (key nonce b t : ByteArray) : (seW key nonce b t).extract t.size (t.size + 16) = tgW key nonce b (cnW key nonce t) := by
  have hc := cnW_size key nonce t
  have ht := tgW_size key nonce b (cnW key nonce t)
  have hz : ((seW key nonce b t).extract t.size (t.size + 16)).size = 16 := by rw [ByteArray.size_extract, seW_size]; omega
  rw [← bq_at8 ((seW key nonce b t).extract t.size (t.size + 16)), hz, ← bq_at8 (tgW key nonce b (cnW key nonce t)), ht]
  refine bq_congr (fun i hi => ?_)
  rw [at8_extract _ t.size (t.size + 16) i (by rw [seW_size]; omega) (by omega)]
  show at8 (cnW key nonce t ++ tgW key nonce b (cnW key nonce t)) (t.size + i) = _
  rw [at8_append, hc, if_neg (by omega), show t.size + i - t.size = i by omega]
theorem op_se (key nonce b t : ByteArray) (hk : key.size = 16) (hn : nonce.size = 12) (hb : b.size ≤ 1500) (ht : t.size ≤ 1500) : opH key nonce b (seW key nonce b t) := by
  have hz := seW_size key nonce b t
  exact ⟨hk, hn, hb, by omega, by omega, by rw [hz, show t.size + 16 - 16 = t.size by omega, se_tail, se_head]⟩
theorem op_turned (key nonce b t : ByteArray) (q d : Nat) (hq : q < t.size + 16) (hd0 : 0 < d) (hd : d < 256) (hK : cm (hkH key) (hkL key) ≠ 0) : ¬ opH key nonce b (tuW (seW key nonce b t) q d) := fun h => by
  have hz := seW_size key nonce b t
  obtain ⟨_, _, _, _, _, h⟩ := h
  rw [tuW_size, hz, show t.size + 16 - 16 = t.size by omega] at h
  have hc := cnW_size key nonce t
  by_cases e : q < t.size
  · have e1 : (tuW (seW key nonce b t) q d).extract t.size (t.size + 16) = tgW key nonce b (cnW key nonce t) := by
      rw [← se_tail]
      have z1 : ((tuW (seW key nonce b t) q d).extract t.size (t.size + 16)).size = 16 := by rw [ByteArray.size_extract, tuW_size, hz]; omega
      have z2 : ((seW key nonce b t).extract t.size (t.size + 16)).size = 16 := by rw [ByteArray.size_extract, hz]; omega
      rw [← bq_at8 ((tuW (seW key nonce b t) q d).extract t.size (t.size + 16)), z1, ← bq_at8 ((seW key nonce b t).extract t.size (t.size + 16)), z2]
      refine bq_congr (fun i hi => ?_)
      rw [at8_extract _ t.size (t.size + 16) i (by rw [tuW_size, hz]; omega) (by omega), at8_extract _ t.size (t.size + 16) i (by rw [hz]; omega) (by omega), tuW_at _ q d hd _ (by rw [hz]; omega)]
      unfold tuB
      rw [if_neg (by omega)]
    have e2 : (tuW (seW key nonce b t) q d).extract 0 t.size = tuW (cnW key nonce t) q d := by
      have z1 : ((tuW (seW key nonce b t) q d).extract 0 t.size).size = t.size := by rw [ByteArray.size_extract, tuW_size, hz]; omega
      rw [← bq_at8 ((tuW (seW key nonce b t) q d).extract 0 t.size), z1, ← bq_at8 (tuW (cnW key nonce t) q d), tuW_size, hc]
      refine bq_congr (fun i hi => ?_)
      have hh := congrArg (fun z => at8 z i) (se_head key nonce b t)
      have hhq := congrArg (fun z => at8 z q) (se_head key nonce b t)
      try simp only at hh hhq
      rw [at8_extract _ 0 t.size i (by rw [hz]; omega) (by omega), Nat.zero_add] at hh
      rw [at8_extract _ 0 t.size q (by rw [hz]; omega) (by omega), Nat.zero_add] at hhq
      rw [at8_extract _ 0 t.size i (by rw [tuW_size, hz]; omega) (by omega), Nat.zero_add, tuW_at _ q d hd _ (by rw [hz]; omega), tuW_at _ q d hd _ (by omega)]
      unfold tuB
      rw [hh, hhq]
    rw [e1, e2] at h
    exact tag_covered key nonce b (cnW key nonce t) q d (by omega) hd0 hd hK h.symm
  · have e2 : (tuW (seW key nonce b t) q d).extract 0 t.size = cnW key nonce t := by
      have z1 : ((tuW (seW key nonce b t) q d).extract 0 t.size).size = t.size := by rw [ByteArray.size_extract, tuW_size, hz]; omega
      have hse := se_head key nonce b t
      rw [← bq_at8 ((tuW (seW key nonce b t) q d).extract 0 t.size), z1, ← bq_at8 (cnW key nonce t), hc]
      refine bq_congr (fun i hi => ?_)
      have hh := congrArg (fun z => at8 z i) hse
      try simp only at hh
      rw [at8_extract _ 0 t.size i (by rw [hz]; omega) (by omega), Nat.zero_add] at hh
      rw [at8_extract _ 0 t.size i (by rw [tuW_size, hz]; omega) (by omega), Nat.zero_add, tuW_at _ q d hd _ (by rw [hz]; omega)]
      unfold tuB
      rw [if_neg (by omega), hh]
    rw [e2, ← se_tail] at h
    have hh := congrArg (fun z => at8 z (q - t.size)) h
    try simp only at hh
    rw [at8_extract _ t.size (t.size + 16) (q - t.size) (by rw [tuW_size, hz]; omega) (by omega), at8_extract _ t.size (t.size + 16) (q - t.size) (by rw [hz]; omega) (by omega), show t.size + (q - t.size) = q by omega] at hh
    exact tu_ne _ q d (by omega) hd0 hd hh
theorem op_nonce (key nonce b t : ByteArray) (hn : nonce.size = 12) (q d : Nat) (hq : q < nonce.size) (hd0 : 0 < d) (hd : d < 256) : ¬ opH key (tuW nonce q d) b (seW key nonce b t) := fun h => by
  have hz := seW_size key nonce b t
  obtain ⟨_, _, _, _, _, h⟩ := h
  rw [hz, show t.size + 16 - 16 = t.size by omega, se_tail, se_head] at h
  exact tag_nonce key nonce b (cnW key nonce t) hn q d hq hd0 hd h.symm
theorem op_beside (key nonce b t : ByteArray) (q d : Nat) (hq : q < b.size) (hd0 : 0 < d) (hd : d < 256) (hK : cm (hkH key) (hkL key) ≠ 0) : ¬ opH key nonce (tuW b q d) (seW key nonce b t) := fun h => by
  have hz := seW_size key nonce b t
  obtain ⟨_, _, _, _, _, h⟩ := h
  rw [hz, show t.size + 16 - 16 = t.size by omega, se_tail, se_head] at h
  exact tag_beside key nonce b (cnW key nonce t) q d hq hd0 hd hK h.symm
end Go.Proofs.Ytgoafbhhihfkfaa
