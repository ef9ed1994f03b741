/-
  Contracts: the model's product of two blocks.
-/
import Derived.Test.YtkpodgeinanceaaL5m
namespace Go.Proofs.Ytkpodgeinanceaa
open Go.ChangeShapes Go.WideShapes Go.ChangeAt Go.RowKit
set_option linter.unusedVariables false

/-- the words of b times 2 to the i -/
def bsP (bh bl : Nat) : Nat → Nat × Nat
  | 0 => (bh, bl)
  | i + 1 => (if (bsP bh bl i).2 % 2 = 1 then (bsP bh bl i).1 / 2 ^^^ 16212958658533785600 else (bsP bh bl i).1 / 2, (bsP bh bl i).2 / 2 + (bsP bh bl i).1 % 2 * 9223372036854775808)
/-- the bit i of a, from the front -/
def btA (ah al i : Nat) : Nat := if i < 64 then ah / 2 ^ (63 - i) % 2 else al / 2 ^ (127 - i) % 2
/-- the words of the product as far as bit i -/
def ouP (ah al bh bl : Nat) : Nat → Nat × Nat
  | 0 => (0, 0)
  | i + 1 => if btA ah al i = 1 then ((ouP ah al bh bl i).1 ^^^ (bsP bh bl i).1, (ouP ah al bh bl i).2 ^^^ (bsP bh bl i).2) else ouP ah al bh bl i
theorem bsP_lt (bh bl : Nat) (h1 : bh < 18446744073709551616) (h2 : bl < 18446744073709551616) : ∀ i, (bsP bh bl i).1 < 18446744073709551616 ∧ (bsP bh bl i).2 < 18446744073709551616
  | 0 => ⟨h1, h2⟩
  | i + 1 => by
    obtain ⟨h3, h4⟩ := bsP_lt bh bl h1 h2 i
    refine ⟨?_, ?_⟩
    · show (if (bsP bh bl i).2 % 2 = 1 then (bsP bh bl i).1 / 2 ^^^ 16212958658533785600 else (bsP bh bl i).1 / 2) < _
      split
      · exact Nat.xor_lt_two_pow (n := 64) (by omega) (by omega)
      · omega
    · show (bsP bh bl i).2 / 2 + (bsP bh bl i).1 % 2 * 9223372036854775808 < _
      omega
theorem ouP_lt (ah al bh bl : Nat) (h1 : bh < 18446744073709551616) (h2 : bl < 18446744073709551616) : ∀ i, (ouP ah al bh bl i).1 < 18446744073709551616 ∧ (ouP ah al bh bl i).2 < 18446744073709551616
  | 0 => ⟨by show 0 < _; omega, by show 0 < _; omega⟩
  | i + 1 => by
    obtain ⟨h3, h4⟩ := ouP_lt ah al bh bl h1 h2 i
    obtain ⟨h5, h6⟩ := bsP_lt bh bl h1 h2 i
    unfold ouP
    split
    · exact ⟨Nat.xor_lt_two_pow (n := 64) h3 h5, Nat.xor_lt_two_pow (n := 64) h4 h6⟩
    · exact ⟨h3, h4⟩
theorem and1 (x : Int) (h0 : 0 ≤ x) (h1 : x < 18446744073709551616) : bits .and .u64 x 1 = x % 2 := by
  first | go_bits2 | exact bits_mask .u64 64 (by decide) (fun n a b => by rw [IntKind.wrap_u64]; omega) 1 (by decide) x h0 h1
theorem xor64 (a b : Nat) (ha : a < 18446744073709551616) (hb : b < 18446744073709551616) : bits .xor .u64 (a : Int) (b : Int) = ((a ^^^ b : Nat) : Int) := by
  have h := Nat.xor_lt_two_pow (n := 64) ha hb
  show IntKind.u64.wrap (((BitVec.ofInt 64 (a : Int) ^^^ BitVec.ofInt 64 (b : Int)).toNat : Nat) : Int) = _
  rw [BitVec.toNat_xor, BitVec.toNat_ofInt, BitVec.toNat_ofInt, show ((a : Int) % ((2 ^ 64 : Nat) : Int)).toNat = a by omega, show ((b : Int) % ((2 ^ 64 : Nat) : Int)).toNat = b by omega, IntKind.wrap_u64]
  omega
theorem or63 (H L : Nat) (hL : L < 18446744073709551616) : bits .or .u64 ((L : Int) / 2) (IntKind.u64.wrap ((H : Int) * 9223372036854775808)) = ((L / 2 + H % 2 * 9223372036854775808 : Nat) : Int) := by
  have h1 := Nat.two_pow_add_eq_or_of_lt (i := 63) (b := L / 2) (by omega) (H % 2)
  show IntKind.u64.wrap (((BitVec.ofInt 64 ((L : Int) / 2) ||| BitVec.ofInt 64 (IntKind.u64.wrap ((H : Int) * 9223372036854775808))).toNat : Nat) : Int) = _
  rw [BitVec.toNat_or, BitVec.toNat_ofInt, BitVec.toNat_ofInt, IntKind.wrap_u64, IntKind.wrap_u64, show ((L : Int) / 2 % ((2 ^ 64 : Nat) : Int)).toNat = L / 2 by omega, show ((H : Int) * 9223372036854775808 % 18446744073709551616 % ((2 ^ 64 : Nat) : Int)).toNat = 2 ^ 63 * (H % 2) by omega, Nat.or_comm, ← h1]
  omega
end Go.Proofs.Ytkpodgeinanceaa
