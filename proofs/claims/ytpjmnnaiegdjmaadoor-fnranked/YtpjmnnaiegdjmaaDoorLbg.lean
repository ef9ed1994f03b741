/-
  Contracts: the model's number of four bytes; the words of a block, each by those before it.
-/
import Derived.Test.YtpjmnnaiegdjmaaDoorSwo
import Derived.Laws.BitsLemmas
import Derived.Deep.RegionHeld3
namespace Go.Proofs.YtpjmnnaiegdjmaaDoor
open Go.ChangeShapes Go.WideShapes Go.ChangeAt Go.RowKit
set_option linter.unusedVariables false

/-- the number of the first k bytes -/
def nbW (s : ByteArray) : Nat → Nat
  | 0 => 0
  | k + 1 => nbW s k * 256 + at8 s k
theorem nbW_lt (s : ByteArray) : ∀ k, nbW s k < 256 ^ k
  | 0 => by simp [nbW]
  | k + 1 => by
    have h1 := nbW_lt s k
    have h2 := at8_lt s k
    rw [nbW, Nat.pow_succ]
    omega
theorem orI (n c : Nat) (hn : n < 4294967296) (hc : c < 256) : bits .or .i64 ((n : Int) * 256) (c : Int) = ((n * 256 + c : Nat) : Int) := by
  have h1 := Nat.two_pow_add_eq_or_of_lt (i := 8) (b := c) (by omega) n
  rw [show (n : Int) * 256 = ((n * 256 : Nat) : Int) by omega]
  by_cases h : n * 256 < 2 ^ 63
  · rw [(bits_nat .i64 63 (by decide) (fun n h0 h1 => wraps_i64 n h0 h1) _ _ h (by omega)).2]
    rw [Nat.mul_comm] at h1
    rw [h1]
  · omega
theorem specBig4 (s : ByteArray) (hs : s.size = 4) (w : World) :
    Calls Tryd.prog 58 #[.string s] w fun e w' => e = .returned (.int .i64 (nbW s 4 : Nat)) ∧ w' = w := by
  go_enter Tryd.func58, Tryd.ntmps58
  go_wp2_with fail
  go_loopw [3, 4] (fun n i wr => ∃ k : Nat, k ≤ 4 ∧ i = .int .i64 k ∧ n = .int .i64 (nbW s k : Nat) ∧ wr = w) (fun _ i _ => 4 - (intOf i).toNat)
  case atStart => exact ⟨0, by omega, rfl, rfl, rfl⟩
  case round =>
    obtain ⟨k, hk, rfl, rfl, rfl⟩ := hrel
    by_cases hlt : k < 4
    · have hn := nbW_lt s k
      have h4 : 256 ^ k ≤ 256 ^ 4 := Nat.pow_le_pow_right (by omega) hk
      have HS : Hid (nbW s (k + 1) = nbW s k * 256 + at8 s k) := rfl
      have hb : nbW s k < 4294967296 := by omega
      have ha := at8_lt s k
      have EO := hide (orI (nbW s k) (at8 s k) (by omega) ha)
      have ea := at8_in s k (by omega)
      rw [ea] at EO HS
      clear h4 hn ha ea
      have W8 : Hid (wrap64 ((s[k]'(by omega)).toNat : Int) = ((s[k]'(by omega)).toNat : Int)) := by
        have := UInt8.toNat_lt (s[k]'(by omega))
        exact (show wrap64 ((s[k]'(by omega)).toNat : Int) = ((s[k]'(by omega)).toNat : Int) by unfold wrap64; omega)
      generalize nbW s k = x at *
      go_wp2
      exact ⟨⟨k + 1, by omega, by go_num, by rw [unhide HS, ← unhide EO, unhide W8], by first | trivial | rfl⟩, by simp [intOf]; omega⟩
    · obtain rfl : k = 4 := by omega
      go_wp2
      go_ret
      exact ⟨rfl, rfl⟩
theorem wsW_stay (s : ByteArray) : ∀ d k i, i < 16 + k → wsW s (k + d) i = wsW s k i
  | 0, _, _, _ => rfl
  | d + 1, k, i, h => by
    rw [show k + (d + 1) = (k + d) + 1 by omega, wsW, if_neg (by omega)]
    exact wsW_stay s d k i h
/-- all words of a block -/
def wsF (s : ByteArray) (i : Nat) : Nat := wsW s 48 i
theorem wsF_first (s : ByteArray) (i : Nat) (h : i < 16) : wsF s i = w4 s i := by
  have := wsW_stay s 48 0 i (by omega)
  rw [Nat.zero_add] at this
  unfold wsF
  rw [this, wsW, if_pos h]
theorem wsF_next (s : ByteArray) (k : Nat) (h : k < 48) : wsF s (k + 16) = (wsF s k + lS0 (wsF s (k + 1)) + wsF s (k + 9) + lS1 (wsF s (k + 14))) % 4294967296 := by
  have e : ∀ i, i < 16 + k → wsF s i = wsW s k i := fun i hi => by
    have := wsW_stay s (48 - k) k i hi
    rw [show k + (48 - k) = 48 by omega] at this
    exact this
  have e1 : wsF s (k + 16) = wsW s (k + 1) (k + 16) := by
    have := wsW_stay s (47 - k) (k + 1) (k + 16) (by omega)
    rw [show k + 1 + (47 - k) = 48 by omega] at this
    exact this
  rw [e1, wsW_step, e k (by omega), e (k + 1) (by omega), e (k + 9) (by omega), e (k + 14) (by omega)]
theorem wsF_lt (s : ByteArray) (i : Nat) : wsF s i < 4294967296 := wsW_lt s 48 i
theorem at8_extract (s : ByteArray) (p q i : Nat) (hq : q ≤ s.size) (hi : p + i < q) : at8 (s.extract p q) i = at8 s (p + i) := by
  rw [at8_in s (p + i) (by omega), at8_in _ _ (by rw [ByteArray.size_extract]; omega)]
  congr 1
  simp [ByteArray.getElem_extract]
theorem nbW_piece (s : ByteArray) (i : Nat) (hi : 4 * i + 4 ≤ s.size) : nbW (s.extract (4 * i) (4 * i + 4)) 4 = w4 s i := by
  unfold w4
  simp only [nbW]
  rw [at8_extract s _ _ 0 hi (by omega), at8_extract s _ _ 1 hi (by omega), at8_extract s _ _ 2 hi (by omega), at8_extract s _ _ 3 hi (by omega), Nat.add_zero]
  omega
end Go.Proofs.YtpjmnnaiegdjmaaDoor
