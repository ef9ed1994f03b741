/-
  Forward and back: blocks undone, either way round.
-/
import Derived.Test.YtldlhdohkghikaaLbk
import Derived.Test.YtldlhdohkghikaaLco
namespace Go.Proofs.Ytldlhdohkghikaa
open Go.ChangeShapes Go.WideShapes Go.ChangeAt Go.RowKit
set_option linter.unusedVariables false

theorem dbl2 (a b c : Nat) (ha : a < 256) (hb : b < 256) (hc : c < 256) : dbl (dbl (a ^^^ b ^^^ c)) = dbl (dbl a) ^^^ dbl (dbl b) ^^^ dbl (dbl c) := by
  rw [dbl_xor _ _ (xor_lt _ _ ha hb) hc, dbl_xor _ _ ha hb, dbl_xor _ _ (xor_lt _ _ (dbl_lt a ha) (dbl_lt b hb)) (dbl_lt c hc), dbl_xor _ _ (dbl_lt a ha) (dbl_lt b hb)]
theorem mx_four (F : Nat → Nat) (hF : ∀ i, F i < 256) (i : Nat) (hi : i < 4) : mixc (mixc (mixc (mixc F))) i = F i := by
  have d2 : ∀ j, dbl (dbl (F j)) < 256 := fun j => dbl_lt _ (dbl_lt _ (hF j))
  rw [mx_two (mixc (mixc F)) (mixc_lt _ (mixc_lt F hF)) i hi, mx_two F hF i hi, mx_two F hF ((i + 2) % 4) (by omega), show ((i + 2) % 4 + 2) % 4 = i by omega,
    dbl2 _ _ _ (d2 _) (hF _) (d2 _), dbl2 _ _ _ (d2 _) (hF _) (d2 _)]
  generalize dbl (dbl (dbl (dbl (F i)))) = v0
  generalize dbl (dbl (dbl (dbl (F ((i + 2) % 4))))) = v2
  generalize dbl (dbl (F i)) = z0
  generalize dbl (dbl (F ((i + 2) % 4))) = z2
  generalize F i = x0
  simp only [Nat.xor_comm, xor_left, xor_back]
theorem mx3_mxb (f : Nat → Nat) (hf : ∀ i, f i < 256) : mx3 (mxb f) = f := funext fun i => by
  obtain ⟨k, j, rfl, hj⟩ : ∃ k j, i = 4 * k + j ∧ j < 4 := ⟨i / 4, i % 4, by omega, by omega⟩
  rw [mx3_at _ k j hj, ← mx_four (fun j => f (4 * k + j)) (fun j => hf _) j hj]
  refine mixc_congr _ _ (fun i hi => ?_) j hj
  refine mixc_congr _ _ (fun i hi => ?_) i hi
  refine mixc_congr _ _ (fun i hi => ?_) i hi
  exact mxb_at f k i hi
theorem mxb_mx3 (f : Nat → Nat) (hf : ∀ i, f i < 256) : mxb (mx3 f) = f := mx3_mxb f hf
theorem mxb_congr (f g : Nat → Nat) (h : ∀ i, i < 16 → f i = g i) (i : Nat) (hi : i < 16) : mxb f i = mxb g i := by
  unfold mxb
  exact mixc_congr _ _ (fun j hj => h _ (by omega)) _ (Nat.mod_lt _ (by omega))
theorem mx3_congr (f g : Nat → Nat) (h : ∀ i, i < 16 → f i = g i) (i : Nat) (hi : i < 16) : mx3 f i = mx3 g i :=
  mxb_congr _ _ (mxb_congr _ _ (mxb_congr _ _ h)) i hi
theorem sbs_congr (f g : Nat → Nat) (h : ∀ i, i < 16 → f i = g i) : sbs f = sbs g := funext fun j => by
  unfold sbs pts
  rw [h _ (Nat.mod_lt _ (by omega))]
theorem ubs_congr (f g : Nat → Nat) (h : ∀ i, i < 16 → f i = g i) : ubs f = ubs g := funext fun j => by
  unfold ubs sh3
  rw [h _ (Nat.mod_lt _ (by omega))]
theorem ubs_sbs (f : Nat → Nat) (hf : ∀ i, f i < 256) (i : Nat) (hi : i < 16) : ubs (sbs f) i = f i := by
  unfold ubs sh3 sbs pts
  rw [back_sub _ (hf _)]
  congr 1
  omega
theorem sbs_ubs (f : Nat → Nat) (hf : ∀ i, f i < 256) (i : Nat) (hi : i < 16) : sbs (ubs f) i = f i := by
  unfold sbs pts ubs sh3
  rw [sub_back _ (hf _)]
  congr 1
  omega
theorem xrs_twice (f g : Nat → Nat) : xrs (xrs f g) g = f := funext fun i => by
  unfold xrs
  rw [Nat.xor_assoc, Nat.xor_self, Nat.xor_zero]
theorem bw_congr (K : Nat → Nat → Nat) (f g : Nat → Nat) (h : ∀ i, i < 16 → f i = g i) : ∀ m i, i < 16 → bw K f m i = bw K g m i
  | 0, i, hi => h i hi
  | m + 1, i, hi => by
    have ih := bw_congr K f g h m
    have hx : ∀ i, i < 16 → xrs (bw K f m) (K (10 - m)) i = xrs (bw K g m) (K (10 - m)) i := fun i hi => by
      unfold xrs
      rw [ih i hi]
    rw [bw, bw]
    by_cases e : m = 0
    · rw [if_pos e, if_pos e, ubs_congr _ _ hx]
    · rw [if_neg e, if_neg e, ubs_congr _ _ (mx3_congr _ _ hx)]
theorem bw_fw (K : Nat → Nat → Nat) (f : Nat → Nat) (hK : ∀ n i, K n i < 256) (hf : ∀ i, f i < 256) : ∀ m, m ≤ 10 → ∀ i, i < 16 → bw K (fw K f 10) m i = fw K f (10 - m) i
  | 0, _, i, hi => rfl
  | m + 1, hm, i, hi => by
    have hl := fun n => fw_lt K f hK hf n
    by_cases e : m = 0
    · subst e
      rw [bw_first, show (fw K f 10) = xrs (sbs (fw K f 9)) (K 10) from fw_last K f, xrs_twice, ubs_sbs _ (hl 9) i hi]
    · obtain ⟨p, hp⟩ : ∃ p, m + (p + 1) = 10 := ⟨9 - m, by omega⟩
      have ih := bw_fw K f hK hf m (by omega)
      rw [show 10 - m = p + 1 by omega] at ih
      rw [bw_next K _ m (p + 1) hp (by omega), show 10 - (m + 1) = p by omega]
      have hx : ∀ i, i < 16 → xrs (bw K (fw K f 10) m) (K (p + 1)) i = mxb (sbs (fw K f p)) i := fun i hi => by
        have h1 : xrs (fw K f (p + 1)) (K (p + 1)) = mxb (sbs (fw K f p)) := by rw [fw_mid K f p (by omega), xrs_twice]
        rw [← h1]
        unfold xrs
        rw [ih i hi]
      rw [ubs_congr _ _ (mx3_congr _ _ hx), mx3_mxb _ (sbs_lt _ (hl p)), ubs_sbs _ (hl p) i hi]
theorem fw_bw (K : Nat → Nat → Nat) (g : Nat → Nat) (hK : ∀ n i, K n i < 256) (hg : ∀ i, g i < 256) : ∀ n, n ≤ 10 → ∀ i, i < 16 → fw K (xrs (bw K g 10) (K 0)) n i = bw K g (10 - n) i
  | 0, _, i, hi => by
    show xrs (xrs (bw K g 10) (K 0)) (K 0) i = _
    rw [xrs_twice]
  | n + 1, hn, i, hi => by
    have hl := fun m => bw_lt K g hK hg m
    have ih := fw_bw K g hK hg n (by omega)
    by_cases e : n = 9
    · subst e
      rw [fw_last, sbs_congr _ _ ih, show 10 - 9 = 0 + 1 by omega, bw_first]
      show sbs (ubs (xrs g (K 10))) i ^^^ K 10 i = g i
      rw [sbs_ubs _ (xrs_lt _ _ hg (hK 10)) i hi]
      show g i ^^^ K 10 i ^^^ K 10 i = g i
      rw [Nat.xor_assoc, Nat.xor_self, Nat.xor_zero]
    · obtain ⟨m, hm⟩ : ∃ m, m + (n + 1) = 10 := ⟨9 - n, by omega⟩
      have hu := xrs_lt _ _ (hl m) (hK (n + 1))
      rw [fw_mid K _ n (by omega), sbs_congr _ _ ih, show 10 - n = m + 1 by omega, bw_next K g m (n + 1) hm (by omega), show 10 - (n + 1) = m by omega]
      show mxb (sbs (ubs (mx3 (xrs (bw K g m) (K (n + 1)))))) i ^^^ K (n + 1) i = _
      rw [mxb_congr _ _ (fun i hi => sbs_ubs _ (mx3_lt _ hu) i hi) i hi, mxb_mx3 _ hu]
      show bw K g m i ^^^ K (n + 1) i ^^^ K (n + 1) i = _
      rw [Nat.xor_assoc, Nat.xor_self, Nat.xor_zero]
theorem at8_ab (k b : ByteArray) (i : Nat) (hi : i < 16) : at8 (abW k b) i = fw (rk (at8 k)) (at8 b) 10 i :=
  at8_bq 16 _ i hi (fw_lt (rk (at8 k)) _ (fun n i => rk_lt (at8 k) (at8_lt k) n i) (at8_lt b) 10 i)
theorem at8_ba (k b : ByteArray) (i : Nat) (hi : i < 16) : at8 (baW k b) i = xrs (bw (rk (at8 k)) (at8 b) 10) (rk (at8 k) 0) i :=
  at8_bq 16 _ i hi (xrs_lt _ _ (bw_lt (rk (at8 k)) _ (fun n i => rk_lt (at8 k) (at8_lt k) n i) (at8_lt b) 10) (fun i => rk_lt (at8 k) (at8_lt k) 0 i) i)
theorem ba_ab (k b : ByteArray) (hb : b.size = 16) : baW k (abW k b) = b := by
  have hK := fun n i => rk_lt (at8 k) (at8_lt k) n i
  have h : baW k (abW k b) = bq 16 (at8 b) := bq_congr fun i hi => by
    show bw (rk (at8 k)) (at8 (abW k b)) 10 i ^^^ rk (at8 k) 0 i = at8 b i
    rw [bw_congr _ _ _ (fun i hi => at8_ab k b i hi) 10 i hi, bw_fw _ _ hK (at8_lt b) 10 (by omega) i hi]
    show at8 b i ^^^ rk (at8 k) 0 i ^^^ rk (at8 k) 0 i = at8 b i
    rw [Nat.xor_assoc, Nat.xor_self, Nat.xor_zero]
  rw [h, ← hb, bq_at8]
theorem ab_ba (k b : ByteArray) (hb : b.size = 16) : abW k (baW k b) = b := by
  have hK := fun n i => rk_lt (at8 k) (at8_lt k) n i
  have h : abW k (baW k b) = bq 16 (at8 b) := bq_congr fun i hi => by
    rw [fw_congr _ _ _ (fun i hi => at8_ba k b i hi) 10 i hi, fw_bw _ _ hK (at8_lt b) 10 (by omega) i hi]
    rfl
  rw [h, ← hb, bq_at8]
theorem ab_inj (k b c : ByteArray) (hb : b.size = 16) (hc : c.size = 16) (h : abW k b = abW k c) : b = c := by
  rw [← ba_ab k b hb, h, ba_ab k c hc]
theorem rk_text (k : ByteArray) (hk : k.size = 16) : (bq 176 (ck (at8 k) 10)).extract 0 16 = k := by
  have h2 : ((bq 176 (ck (at8 k) 10)).extract 0 16).size = 16 := by rw [ByteArray.size_extract, bq_size]; omega
  rw [← bq_at8 ((bq 176 (ck (at8 k) 10)).extract 0 16), h2]
  have h : bq 16 (at8 ((bq 176 (ck (at8 k) 10)).extract 0 16)) = bq 16 (at8 k) := bq_congr fun i hi => by
    rw [at8_extract _ 0 16 i (by rw [bq_size]; omega) (by omega), Nat.zero_add, at8_bq 176 _ i (by omega) (ck_lt _ (at8_lt k) i (by omega)), ck_ks _ _ (by omega), ks_first _ _ hi]
  rw [h, ← hk, bq_at8]
end Go.Proofs.Ytldlhdohkghikaa
