/-
  Texts behind a block: the hash of a block and a text is that of the text from the state behind the block on.
-/
import Derived.Test.YtlphaciboaicgaaDoorSsh
import Derived.Test.YtlphaciboaicgaaDoorLfx
import Derived.Test.YtlphaciboaicgaaDoorLbg
namespace Go.Proofs.YtlphaciboaicgaaDoor
open Go.ChangeShapes Go.WideShapes Go.ChangeAt Go.RowKit
set_option linter.unusedVariables false

theorem at8_append (a b : ByteArray) (i : Nat) : at8 (a ++ b) i = if i < a.size then at8 a i else at8 b (i - a.size) := by
  unfold at8
  by_cases h : i < a.size
  · rw [if_pos h, dif_pos h, dif_pos (by rw [ByteArray.size_append]; omega), ByteArray.getElem_append_left h]
  · rw [if_neg h]
    by_cases h2 : i - a.size < b.size
    · rw [dif_pos h2, dif_pos (by rw [ByteArray.size_append]; omega), ByteArray.getElem_append_right (by omega)]
    · rw [dif_neg h2, dif_neg (by rw [ByteArray.size_append]; omega)]
theorem bq_extract (N p m : Nat) (f : Nat → Nat) (h : p + m ≤ N) (hf : ∀ i, f i < 256) : (bq N f).extract p (p + m) = bq m (fun i => f (p + i)) := by
  have hs : ((bq N f).extract p (p + m)).size = m := by rw [ByteArray.size_extract, bq_size]; omega
  have h1 := bq_at8 ((bq N f).extract p (p + m))
  rw [hs] at h1
  rw [← h1]
  refine bq_congr fun i hi => ?_
  rw [at8_extract _ _ _ _ (by rw [bq_size]; exact h) (by omega), at8_bq _ _ _ (by omega) (hf _)]
theorem pdL_64 (n : Nat) : pdL (64 + n) = 64 + pdL n := by unfold pdL; omega
theorem pdB_64 (b t : ByteArray) (hb : b.size = 64) (sz x : Nat) : pdB (b ++ t) sz (64 + x) = pdB t sz x := by
  have hs : (b ++ t).size = 64 + t.size := by rw [ByteArray.size_append, hb]
  unfold pdB
  rw [hs, pdL_64, at8_append, hb, if_neg (by omega : ¬ 64 + x < 64)]
  by_cases h1 : x < t.size
  · rw [if_pos h1, if_pos (by omega)]
    congr 1
    omega
  · rw [if_neg h1, if_neg (by omega)]
    by_cases h2 : x = t.size
    · rw [if_pos h2, if_pos (by omega)]
    · rw [if_neg h2, if_neg (by omega)]
      by_cases h3 : x + 4 < pdL t.size
      · rw [if_pos h3, if_pos (by omega)]
      · rw [if_neg h3, if_neg (by omega)]
        congr 1
        omega
theorem blk_first (b t : ByteArray) (hb : b.size = 64) (sz : Nat) : blk (bq (pdL (64 + t.size)) (pdB (b ++ t) sz)) 0 = b := by
  unfold blk
  rw [bq_extract _ _ 64 _ (by rw [pdL_64]; omega) (pdB_lt _ _)]
  have h1 := bq_at8 b
  rw [hb] at h1
  refine Eq.trans (bq_congr fun i hi => ?_) h1
  rw [pdB_text _ _ _ (by rw [ByteArray.size_append, hb]; omega), at8_append, if_pos (by omega)]
  congr 1
  omega
theorem blk_next (b t : ByteArray) (hb : b.size = 64) (sz j : Nat) (hj : 64 * j + 64 ≤ pdL t.size) : blk (bq (pdL (64 + t.size)) (pdB (b ++ t) sz)) (j + 1) = blk (bq (pdL t.size) (pdB t sz)) j := by
  unfold blk
  rw [bq_extract _ _ 64 _ (by rw [pdL_64]; omega) (pdB_lt _ _), bq_extract _ _ 64 _ hj (pdB_lt _ _)]
  refine bq_congr fun i hi => ?_
  rw [show 64 * (j + 1) + i = 64 + (64 * j + i) by omega, pdB_64 _ _ hb]
theorem stW_next (s : Nat → Nat) (b t : ByteArray) (hb : b.size = 64) (sz : Nat) : ∀ k, 64 * k ≤ pdL t.size → stW s (bq (pdL (64 + t.size)) (pdB (b ++ t) sz)) (k + 1) = stW (bhW s b) (bq (pdL t.size) (pdB t sz)) k
  | 0, _ => by
    show bhW (stW s _ 0) (blk _ 0) = _
    rw [blk_first _ _ hb]
    rfl
  | k + 1, h => by
    show bhW (stW s _ (k + 1)) (blk _ (k + 1)) = bhW (stW _ _ k) (blk _ k)
    rw [stW_next s b t hb sz k (by omega), blk_next _ _ hb _ _ (by omega)]
/-- the hash of a text behind a block -/
def enW (s : Nat → Nat) (t : ByteArray) : ByteArray := bq 32 (dgW (stW s (bq (pdL t.size) (pdB t (64 + t.size))) (pdL t.size / 64)))
theorem sh_behind (b t : ByteArray) (hb : b.size = 64) : shW (b ++ t) = enW (bhW HW b) t := by
  have hs : (b ++ t).size = 64 + t.size := by rw [ByteArray.size_append, hb]
  unfold shW enW
  rw [hs]
  have h1 := stW_next HW b t hb (64 + t.size) (pdL t.size / 64) (by omega)
  rw [show pdL (64 + t.size) / 64 = pdL t.size / 64 + 1 by rw [pdL_64]; omega, h1]
theorem enW_size (s : Nat → Nat) (t : ByteArray) : (enW s t).size = 32 := bq_size _ _
theorem shW_size (t : ByteArray) : (shW t).size = 32 := bq_size _ _
/-- a key's block, each byte xored -/
def kyW (key : ByteArray) (x : Nat) : ByteArray := bq 64 (fun i => at8 key i ^^^ x)
theorem kyW_size (key : ByteArray) (x : Nat) : (kyW key x).size = 64 := bq_size _ _
/-- a key, hashed where it is longer than a block -/
def k64 (key : ByteArray) : ByteArray := if key.size ≤ 64 then key else shW key
theorem k64_size (key : ByteArray) : (k64 key).size ≤ 64 := by
  unfold k64
  split
  · assumption
  · rw [shW_size]; omega
/-- the keyed hash -/
def hmW (key t : ByteArray) : ByteArray := shW (kyW (k64 key) 92 ++ shW (kyW (k64 key) 54 ++ t))
theorem hmW_size (key t : ByteArray) : (hmW key t).size = 32 := bq_size _ _
theorem hmW_ends (key t : ByteArray) : hmW key t = enW (bhW HW (kyW (k64 key) 92)) (enW (bhW HW (kyW (k64 key) 54)) t) := by
  unfold hmW
  rw [sh_behind _ _ (kyW_size _ _), sh_behind _ _ (kyW_size _ _)]
end Go.Proofs.YtlphaciboaicgaaDoor
