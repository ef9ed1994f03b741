/-
  The powers of 3 in the field, and the table that is made by them.
-/
import Derived.Test.YtkpodgeinanceaaGiv
import Derived.Test.YtkpodgeinanceaaAbo
namespace Go.Proofs.Ytkpodgeinanceaa
open Go.ChangeShapes Go.WideShapes Go.ChangeAt Go.RowKit
set_option linter.unusedVariables false

/-- the powers of 3 -/
def pl : List Nat := [1, 3, 5, 15, 17, 51, 85, 255, 26, 46, 114, 150, 161, 248, 19, 53, 95, 225, 56, 72, 216, 115, 149, 164, 247, 2, 6, 10, 30, 34, 102, 170, 229, 52, 92, 228, 55, 89, 235, 38, 106, 190, 217, 112, 144, 171, 230, 49, 83, 245, 4, 12, 20, 60, 68, 204, 79, 209, 104, 184, 211, 110, 178, 205, 76, 212, 103, 169, 224, 59, 77, 215, 98, 166, 241, 8, 24, 40, 120, 136, 131, 158, 185, 208, 107, 189, 220, 127, 129, 152, 179, 206, 73, 219, 118, 154, 181, 196, 87, 249, 16, 48, 80, 240, 11, 29, 39, 105, 187, 214, 97, 163, 254, 25, 43, 125, 135, 146, 173, 236, 47, 113, 147, 174, 233, 32, 96, 160, 251, 22, 58, 78, 210, 109, 183, 194, 93, 231, 50, 86, 250, 21, 63, 65, 195, 94, 226, 61, 71, 201, 64, 192, 91, 237, 44, 116, 156, 191, 218, 117, 159, 186, 213, 100, 172, 239, 42, 126, 130, 157, 188, 223, 122, 142, 137, 128, 155, 182, 193, 88, 232, 35, 101, 175, 234, 37, 111, 177, 200, 67, 197, 84, 252, 31, 33, 99, 165, 244, 7, 9, 27, 45, 119, 153, 176, 203, 70, 202, 69, 207, 74, 222, 121, 139, 134, 145, 168, 227, 62, 66, 198, 81, 243, 14, 18, 54, 90, 238, 41, 123, 141, 140, 143, 138, 133, 148, 167, 242, 13, 23, 57, 75, 221, 124, 132, 151, 162, 253, 28, 36, 108, 180, 199, 82, 246, 1]
def pow3 (i : Nat) : Nat := pl.getD i 0
theorem pow3_all : ∀ i : Fin 255, pow3 ((i : Nat) + 1) = pow3 i ^^^ dbl (pow3 i) ∧ pow3 i < 256 ∧ spr (pow3 ((255 - (i : Nat)) % 255)) = sub (pow3 i) := by decide +kernel
theorem pow3_has : ∀ b : Fin 256, (b : Nat) = 0 ∨ (pl.take 255).contains (b : Nat) = true := by decide +kernel
theorem pow3_next (i : Nat) (h : i < 255) : pow3 (i + 1) = pow3 i ^^^ dbl (pow3 i) := (pow3_all ⟨i, h⟩).1
theorem pow3_lt (i : Nat) (h : i < 255) : pow3 i < 256 := (pow3_all ⟨i, h⟩).2.1
theorem pow3_sub (i : Nat) (h : i < 255) : spr (pow3 ((255 - i) % 255)) = sub (pow3 i) := (pow3_all ⟨i, h⟩).2.2
/-- the table behind k powers -/
def bx (P : Nat → Nat) : Nat → Nat → Nat
  | 0, b => if b = 0 then sub 0 else 0
  | k + 1, b => if b = P k then sub b else bx P k b
theorem bx_old (P : Nat → Nat) (b : Nat) : ∀ (k i : Nat), i < k → P i = b → bx P k b = sub b
  | 0, i, h, _ => by omega
  | k + 1, i, h, e => by
    unfold bx
    by_cases h1 : b = P k
    · rw [if_pos h1]
    · rw [if_neg h1]
      refine bx_old P b k i ?_ e
      by_cases h2 : i = k
      · subst h2; exact absurd e.symm h1
      · omega
theorem bx_zero (P : Nat → Nat) : ∀ k, bx P k 0 = sub 0
  | 0 => by simp [bx]
  | k + 1 => by
    unfold bx
    split
    · rfl
    · exact bx_zero P k
theorem bx_end (b : Nat) (h : b < 256) : bx pow3 255 b = sub b := by
  rcases pow3_has ⟨b, h⟩ with e | e
  · have e : b = 0 := e
    subst e; exact bx_zero pow3 255
  · have e : b ∈ pl.take 255 := by simpa using e
    obtain ⟨i, hi, hx⟩ := List.getElem_of_mem e
    have hl : i < 255 := by simp at hi; omega
    refine bx_old pow3 b 255 i hl ?_
    rw [← hx]
    unfold pow3
    rw [List.getD_eq_getElem?_getD, List.getElem_take, List.getElem?_eq_getElem]
    rfl
theorem sub0 : spr 0 = sub 0 := by decide +kernel

end Go.Proofs.Ytkpodgeinanceaa
