/-
  The hash of two texts xored is both hashes xored.
-/
import Derived.Test.YtgoafbhhihfkfaaMbk
import Derived.Test.YtgoafbhhihfkfaaL5h
namespace Go.Proofs.Ytgoafbhhihfkfaa
open Go.ChangeShapes Go.WideShapes Go.ChangeAt Go.RowKit
set_option linter.unusedVariables false

theorem ghF_cong (kh kl : Nat) (f g : Nat → Nat) : ∀ j, (∀ i, i < 16 * j → f i = g i) → ghF kh kl f j = ghF kh kl g j
  | 0, _ => rfl
  | j + 1, h => by
    rw [ghF, ghF, ghF_cong kh kl f g j (fun i hi => h i (by omega))]
    unfold bkH bkL
    rw [nbF_cong (fun i => f (16 * j + i)) (fun i => g (16 * j + i)) 8 (fun i hi => h _ (by omega)), nbF_cong (fun i => f (16 * j + (8 + i))) (fun i => g (16 * j + (8 + i))) 8 (fun i hi => h _ (by omega))]
/-- the hash as a number -/
def ghN (kh kl : Nat) (f : Nat → Nat) (j : Nat) : Nat := cm (ghF kh kl f j).1 (ghF kh kl f j).2
theorem ghN_lt (kh kl : Nat) (f : Nat → Nat) (h1 : kh < 18446744073709551616) (h2 : kl < 18446744073709551616) (j : Nat) : ghN kh kl f j < 2 ^ 128 := cm_lt _ _ (ghF_lt kh kl f h1 h2 j).1 (ghF_lt kh kl f h1 h2 j).2
theorem ghN_next (kh kl : Nat) (f : Nat → Nat) (hf : ∀ i, f i < 256) (h1 : kh < 18446744073709551616) (h2 : kl < 18446744073709551616) (j : Nat) : ghN kh kl f (j + 1) = gm (ghN kh kl f j ^^^ cm (bkH f j) (bkL f j)) (cm kh kl) := by
  have h3 := ghF_lt kh kl f h1 h2 j
  unfold ghN
  rw [ghF, cm_ouP _ _ _ _ (Nat.xor_lt_two_pow (n := 64) h3.2 (bkL_lt f hf j)) h1 h2, cm_xor _ _ _ _ h3.2 (bkL_lt f hf j)]
theorem bk_xor (f g : Nat → Nat) (hf : ∀ i, f i < 256) (hg : ∀ i, g i < 256) (j : Nat) : cm (bkH (fun i => f i ^^^ g i) j) (bkL (fun i => f i ^^^ g i) j) = cm (bkH f j) (bkL f j) ^^^ cm (bkH g j) (bkL g j) := by
  rw [cm_xor _ _ _ _ (bkL_lt f hf j) (bkL_lt g hg j)]
  unfold bkH bkL
  rw [nb_xor (fun i => f (16 * j + i)) (fun i => g (16 * j + i)) (fun i => hf _) (fun i => hg _), nb_xor (fun i => f (16 * j + (8 + i))) (fun i => g (16 * j + (8 + i))) (fun i => hf _) (fun i => hg _)]
theorem ghN_xor (kh kl : Nat) (f g : Nat → Nat) (hf : ∀ i, f i < 256) (hg : ∀ i, g i < 256) (h1 : kh < 18446744073709551616) (h2 : kl < 18446744073709551616) : ∀ j, ghN kh kl (fun i => f i ^^^ g i) j = ghN kh kl f j ^^^ ghN kh kl g j
  | 0 => by
    show cm 0 0 = cm 0 0 ^^^ cm 0 0
    rw [Nat.xor_self]
    unfold cm
    omega
  | j + 1 => by
    rw [ghN_next kh kl _ (fun i => xor_lt _ _ (hf i) (hg i)) h1 h2, ghN_next kh kl f hf h1 h2, ghN_next kh kl g hg h1 h2, ghN_xor kh kl f g hf hg h1 h2 j, bk_xor f g hf hg, xor_four, gm_left]
theorem blN_gh (h s : ByteArray) : blN (ghW h s) = ghN (hiW h) (loW h) (at8 s) (s.size / 16) := by
  have hl := ghF_lt (hiW h) (loW h) (at8 s) (hiW_lt h) (loW_lt h) (s.size / 16)
  unfold blN ghW
  rw [hi_tl _ _ hl.1, lo_tl _ _ hl.2]
  rfl
theorem gh_xor (h s t : ByteArray) (hs : s.size % 16 = 0) (hst : t.size = s.size) : ghW h (xoW s t) = xoW (ghW h s) (ghW h t) := by
  refine blN_inj _ _ (ghW_size _ _) (by rw [xoW_size, ghW_size]) ?_
  rw [blN_xo _ _ (ghW_size _ _) (ghW_size _ _), blN_gh, blN_gh, blN_gh, xoW_size, hst, ← ghN_xor _ _ _ _ (at8_lt s) (at8_lt t) (hiW_lt h) (loW_lt h)]
  unfold ghN
  rw [ghF_cong _ _ (at8 (xoW s t)) (fun i => at8 s i ^^^ at8 t i) _ (fun i hi => xo_at s t i (by omega))]
end Go.Proofs.Ytgoafbhhihfkfaa
