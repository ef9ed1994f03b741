/-
  The field of 256 on natural numbers: doubling, products, inverses, turns, and what tables say of them.
-/
import Derived.Test.YtkpodgeinanceaaBase
namespace Go.Proofs.Ytkpodgeinanceaa
open Go.ChangeShapes Go.WideShapes Go.ChangeAt Go.RowKit
set_option linter.unusedVariables false

def dbl (a : Nat) : Nat := if a < 128 then a * 2 else (a * 2 - 256) ^^^ 27
def mg : Nat → Nat → Nat → Nat → Nat
  | 0, _, _, o => o
  | k + 1, a, b, o => if b = 0 then o else mg k (dbl a) (b / 2) (if b % 2 = 1 then o ^^^ a else o)
def mul (a b : Nat) : Nat := mg 8 a b 0
/-- k rounds: squared, and put to the power -/
def ivs : Nat → Nat → Nat → Nat
  | 0, _, p => p
  | k + 1, a, p => ivs k (mul a a) (mul p (mul a a))
def inv (a : Nat) : Nat := ivs 7 a 1
def rol (n k : Nat) : Nat := (n * 2 ^ k) % 256 ||| n / 2 ^ (8 - k)
def spr (c : Nat) : Nat := c ^^^ rol c 1 ^^^ rol c 2 ^^^ rol c 3 ^^^ rol c 4 ^^^ 99
def uns (b : Nat) : Nat := rol b 1 ^^^ rol b 3 ^^^ rol b 6 ^^^ 5
def sub (b : Nat) : Nat := spr (inv b)
def back (b : Nat) : Nat := inv (uns b)

theorem xor_lt (a b : Nat) (ha : a < 256) (hb : b < 256) : a ^^^ b < 256 := Nat.xor_lt_two_pow (n := 8) ha hb
theorem or_lt (a b : Nat) (ha : a < 256) (hb : b < 256) : a ||| b < 256 := Nat.or_lt_two_pow (n := 8) ha hb
theorem dbl_lt (a : Nat) (ha : a < 256) : dbl a < 256 := by
  unfold dbl; split
  · omega
  · exact xor_lt _ _ (by omega) (by omega)
theorem mg_lt : ∀ (k a b o : Nat), a < 256 → o < 256 → mg k a b o < 256
  | 0, a, b, o, _, ho => ho
  | k + 1, a, b, o, ha, ho => by
    unfold mg; split
    · exact ho
    · refine mg_lt k _ _ _ (dbl_lt a ha) ?_
      split
      · exact xor_lt _ _ ho ha
      · exact ho
theorem mul_lt (a b : Nat) (ha : a < 256) : mul a b < 256 := mg_lt 8 a b 0 ha (by omega)
theorem ivs_lt : ∀ (k a p : Nat), a < 256 → p < 256 → ivs k a p < 256
  | 0, a, p, _, hp => hp
  | k + 1, a, p, ha, hp => ivs_lt k _ _ (mul_lt _ _ ha) (mul_lt _ _ hp)
theorem inv_lt (a : Nat) (ha : a < 256) : inv a < 256 := ivs_lt 7 a 1 ha (by omega)
theorem rol_lt (a k : Nat) (ha : a < 256) : rol a k < 256 := or_lt _ _ (Nat.mod_lt _ (by omega)) (Nat.lt_of_le_of_lt (Nat.div_le_self _ _) ha)
theorem spr_lt (a : Nat) (ha : a < 256) : spr a < 256 := by
  unfold spr
  repeat (first | assumption | apply xor_lt | apply rol_lt | omega)
theorem uns_lt (a : Nat) (ha : a < 256) : uns a < 256 := by
  unfold uns
  repeat (first | assumption | apply xor_lt | apply rol_lt | omega)
theorem sub_lt (a : Nat) (ha : a < 256) : sub a < 256 := spr_lt _ (inv_lt _ ha)
theorem back_lt (a : Nat) (ha : a < 256) : back a < 256 := inv_lt _ (uns_lt _ ha)

theorem mul2_all : ∀ x : Fin 256, mul 2 x = dbl x := by decide +kernel
theorem mul3_all : ∀ x : Fin 256, mul 3 x = dbl x ^^^ x := by decide +kernel
theorem mul1_all : ∀ x : Fin 256, mul 1 x = x := by decide +kernel
theorem mulx2_all : ∀ x : Fin 256, mul x 2 = dbl x := by decide +kernel
theorem uns_all : ∀ x : Fin 256, rol (x ^^^ 99) 1 ^^^ rol (x ^^^ 99) 3 ^^^ rol (x ^^^ 99) 6 = uns x := by decide +kernel
theorem mul2 (x : Nat) (h : x < 256) : mul 2 x = dbl x := mul2_all ⟨x, h⟩
theorem mul3 (x : Nat) (h : x < 256) : mul 3 x = dbl x ^^^ x := mul3_all ⟨x, h⟩
theorem mul1 (x : Nat) (h : x < 256) : mul 1 x = x := mul1_all ⟨x, h⟩
theorem mulx2 (x : Nat) (h : x < 256) : mul x 2 = dbl x := mulx2_all ⟨x, h⟩
theorem uns_eq (x : Nat) (h : x < 256) : rol (x ^^^ 99) 1 ^^^ rol (x ^^^ 99) 3 ^^^ rol (x ^^^ 99) 6 = uns x := uns_all ⟨x, h⟩
theorem wrap_u8 (n : Int) : IntKind.u8.wrap n = n % 256 := by simp [IntKind.wrap, IntKind.signed, IntKind.bits]
end Go.Proofs.Ytkpodgeinanceaa
