/-
  AES is one to one: rounds undone on numbers.
-/
import Derived.Test.YtgoafbhhihfkfaaAbfX
import Derived.Test.YtgoafbhhihfkfaaGm3
namespace Go.Proofs.Ytgoafbhhihfkfaa
open Go.ChangeShapes Go.WideShapes Go.ChangeAt Go.RowKit
set_option linter.unusedVariables false

theorem dbl2' (a b c : Nat) (ha : a < 256) (hb : b < 256) (hc : c < 256) : dbl (dbl (a ^^^ b ^^^ c)) = dbl (dbl a) ^^^ dbl (dbl b) ^^^ dbl (dbl c) := by
  rw [dbl_xor _ _ (xor_lt _ _ ha hb) hc, dbl_xor _ _ ha hb, dbl_xor _ _ (xor_lt _ _ (dbl_lt a ha) (dbl_lt b hb)) (dbl_lt c hc), dbl_xor _ _ (dbl_lt a ha) (dbl_lt b hb)]
theorem mx_four' (F : Nat → Nat) (hF : ∀ i, F i < 256) (i : Nat) (hi : i < 4) : mixc (mixc (mixc (mixc F))) i = F i := by
  have d2 : ∀ j, dbl (dbl (F j)) < 256 := fun j => dbl_lt _ (dbl_lt _ (hF j))
  rw [mx_two (mixc (mixc F)) (mixc_lt _ (mixc_lt F hF)) i hi, mx_two F hF i hi, mx_two F hF ((i + 2) % 4) (by omega), show ((i + 2) % 4 + 2) % 4 = i by omega,
    dbl2' _ _ _ (d2 _) (hF _) (d2 _), dbl2' _ _ _ (d2 _) (hF _) (d2 _)]
  generalize dbl (dbl (dbl (dbl (F i)))) = v0
  generalize dbl (dbl (dbl (dbl (F ((i + 2) % 4))))) = v2
  generalize dbl (dbl (F i)) = z0
  generalize dbl (dbl (F ((i + 2) % 4))) = z2
  generalize F i = x0
  simp only [Nat.xor_comm, xor_left, xor_back]
theorem mixc_cong (F G : Nat → Nat) (h : ∀ i, i < 4 → F i = G i) (i : Nat) (hi : i < 4) : mixc F i = mixc G i := by
  unfold mixc
  rw [h i hi, h ((i + 1) % 4) (by omega), h ((i + 2) % 4) (by omega), h ((i + 3) % 4) (by omega)]
theorem mxb_cong (f g : Nat → Nat) (h : ∀ i, i < 16 → f i = g i) (i : Nat) (hi : i < 16) : mxb f i = mxb g i := by
  unfold mxb
  exact mixc_cong _ _ (fun j hj => h _ (by omega)) _ (Nat.mod_lt _ (by omega))
theorem mxb4 (f : Nat → Nat) (hf : ∀ i, f i < 256) (i : Nat) : mxb (mxb (mxb (mxb f))) i = f i := by
  obtain ⟨k, j, rfl, hj⟩ : ∃ k j, i = 4 * k + j ∧ j < 4 := ⟨i / 4, i % 4, by omega, by omega⟩
  rw [mxb_at _ k j hj, ← mx_four' (fun j => f (4 * k + j)) (fun j => hf _) j hj]
  refine mixc_cong _ _ (fun i hi => ?_) j hj
  rw [mxb_at _ k i hi]
  refine mixc_cong _ _ (fun i hi => ?_) i hi
  rw [mxb_at _ k i hi]
  refine mixc_cong _ _ (fun i hi => ?_) i hi
  exact mxb_at f k i hi
theorem mxb_inj (f g : Nat → Nat) (hf : ∀ i, f i < 256) (hg : ∀ i, g i < 256) (h : ∀ i, i < 16 → mxb f i = mxb g i) (i : Nat) (hi : i < 16) : f i = g i := by
  rw [← mxb4 f hf i, ← mxb4 g hg i]
  exact mxb_cong _ _ (mxb_cong _ _ (mxb_cong _ _ h)) i hi
theorem bs_every : ∀ x : Fin 256, back (sub x) = x := by decide +kernel
theorem sub_inj (x y : Nat) (hx : x < 256) (hy : y < 256) (h : sub x = sub y) : x = y := by
  have h1 := bs_every ⟨x, hx⟩
  have h2 := bs_every ⟨y, hy⟩
  simp only at h1 h2
  rw [← h1, ← h2, h]
theorem sbs_inj (f g : Nat → Nat) (hf : ∀ i, f i < 256) (hg : ∀ i, g i < 256) (h : ∀ i, i < 16 → sbs f i = sbs g i) (i : Nat) (hi : i < 16) : f i = g i := by
  have h1 := h ((i + 12 * (i % 4)) % 16) (by omega)
  unfold sbs pts at h1
  have e : ((i + 12 * (i % 4)) % 16 + 4 * ((i + 12 * (i % 4)) % 16 % 4)) % 16 = i := by omega
  rw [e] at h1
  exact sub_inj _ _ (hf _) (hg _) h1
theorem xor_can (a b c : Nat) (h : a ^^^ c = b ^^^ c) : a = b := by
  have := congrArg (fun z => z ^^^ c) h
  simp only [Nat.xor_assoc, Nat.xor_self, Nat.xor_zero] at this
  exact this
theorem fw_inj (K : Nat → Nat → Nat) (f g : Nat → Nat) (hK : ∀ n i, K n i < 256) (hf : ∀ i, f i < 256) (hg : ∀ i, g i < 256) : ∀ n, (∀ i, i < 16 → fw K f n i = fw K g n i) → ∀ i, i < 16 → f i = g i
  | 0, h, i, hi => xor_can _ _ (K 0 i) (h i hi)
  | n + 1, h, i, hi => by
    refine fw_inj K f g hK hf hg n ?_ i hi
    have hF := fw_lt K f hK hf n
    have hG := fw_lt K g hK hg n
    refine sbs_inj _ _ hF hG ?_
    by_cases e : n + 1 < 10
    · refine mxb_inj _ _ (sbs_lt _ hF) (sbs_lt _ hG) (fun j hj => ?_)
      have := h j hj
      change xrs (if n + 1 < 10 then mxb (sbs (fw K f n)) else sbs (fw K f n)) (K (n + 1)) j = xrs (if n + 1 < 10 then mxb (sbs (fw K g n)) else sbs (fw K g n)) (K (n + 1)) j at this
      rw [if_pos e, if_pos e] at this
      exact xor_can _ _ (K (n + 1) j) this
    · intro j hj
      have := h j hj
      change xrs (if n + 1 < 10 then mxb (sbs (fw K f n)) else sbs (fw K f n)) (K (n + 1)) j = xrs (if n + 1 < 10 then mxb (sbs (fw K g n)) else sbs (fw K g n)) (K (n + 1)) j at this
      rw [if_neg e, if_neg e] at this
      exact xor_can _ _ (K (n + 1) j) this
end Go.Proofs.Ytgoafbhhihfkfaa
