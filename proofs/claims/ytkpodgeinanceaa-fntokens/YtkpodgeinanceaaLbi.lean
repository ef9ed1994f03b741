/-
  Contracts: the model's number of four bytes.
-/
import Derived.Test.YtkpodgeinanceaaArs
import Derived.Laws.BitsLemmas
import Derived.Deep.RegionHeld3
namespace Go.Proofs.Ytkpodgeinanceaa
open Go.ChangeShapes Go.WideShapes Go.ChangeAt Go.RowKit
set_option linter.unusedVariables false

/-- the number of the first k bytes -/
def nbW (s : ByteArray) : Nat → Nat
  | 0 => 0
  | k + 1 => nbW s k * 256 + at8 s k
theorem nbW_lt (s : ByteArray) : ∀ k, nbW s k < 256 ^ k
  | 0 => by simp [nbW]
  | k + 1 => by
    have h1 := nbW_lt s k
    have h2 := at8_lt s k
    rw [nbW, Nat.pow_succ]
    omega
theorem orI (n c : Nat) (hn : n < 4294967296) (hc : c < 256) : bits .or .i64 ((n : Int) * 256) (c : Int) = ((n * 256 + c : Nat) : Int) := by
  have h1 := Nat.two_pow_add_eq_or_of_lt (i := 8) (b := c) (by omega) n
  rw [show (n : Int) * 256 = ((n * 256 : Nat) : Int) by omega]
  by_cases h : n * 256 < 2 ^ 63
  · rw [(bits_nat .i64 63 (by decide) (fun n h0 h1 => wraps_i64 n h0 h1) _ _ h (by omega)).2]
    rw [Nat.mul_comm] at h1
    rw [h1]
  · omega
theorem specBig4 (s : ByteArray) (hs : s.size = 4) (w : World) :
    Calls Try.prog 38 #[.string s] w fun e w' => e = .returned (.int .i64 (nbW s 4 : Nat)) ∧ w' = w := by
  go_enter Try.func38, Try.ntmps38
  go_wp2_with fail
  go_loopw [3, 4] (fun n i wr => ∃ k : Nat, k ≤ 4 ∧ i = .int .i64 k ∧ n = .int .i64 (nbW s k : Nat) ∧ wr = w) (fun _ i _ => 4 - (intOf i).toNat)
  case atStart => exact ⟨0, by omega, rfl, rfl, rfl⟩
  case round =>
    obtain ⟨k, hk, rfl, rfl, rfl⟩ := hrel
    by_cases hlt : k < 4
    · have hn := nbW_lt s k
      have h4 : 256 ^ k ≤ 256 ^ 4 := Nat.pow_le_pow_right (by omega) hk
      have HS : Hid (nbW s (k + 1) = nbW s k * 256 + at8 s k) := rfl
      have hb : nbW s k < 4294967296 := by omega
      have ha := at8_lt s k
      have EO := hide (orI (nbW s k) (at8 s k) (by omega) ha)
      have ea := at8_in s k (by omega)
      rw [ea] at EO HS
      clear h4 hn ha ea
      have W8 : Hid (wrap64 ((s[k]'(by omega)).toNat : Int) = ((s[k]'(by omega)).toNat : Int)) := by
        have := UInt8.toNat_lt (s[k]'(by omega))
        exact (show wrap64 ((s[k]'(by omega)).toNat : Int) = ((s[k]'(by omega)).toNat : Int) by unfold wrap64; omega)
      generalize nbW s k = x at *
      go_wp2
      exact ⟨⟨k + 1, by omega, by go_num, by rw [unhide HS, ← unhide EO, unhide W8], by first | trivial | rfl⟩, by simp [intOf]; omega⟩
    · obtain rfl : k = 4 := by omega
      go_wp2
      go_ret
      exact ⟨rfl, rfl⟩
theorem at8_extract (s : ByteArray) (p q i : Nat) (hq : q ≤ s.size) (hi : p + i < q) : at8 (s.extract p q) i = at8 s (p + i) := by
  rw [at8_in s (p + i) (by omega), at8_in _ _ (by rw [ByteArray.size_extract]; omega)]
  congr 1
  simp [ByteArray.getElem_extract]
end Go.Proofs.Ytkpodgeinanceaa
