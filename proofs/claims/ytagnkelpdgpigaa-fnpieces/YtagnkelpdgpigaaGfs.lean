/-
  Contract: the model's look at a frame.
-/
import Derived.Test.YtagnkelpdgpigaaRng
import Derived.Carry
namespace Go.Proofs.Ytagnkelpdgpigaa
open Go.ChangeShapes Go.WideShapes Go.ChangeAt Go.RowKit
set_option linter.unusedVariables false

/-- how many of A, B, C a kind has, and how long its data may be at least and at most; -1 where there is no such kind -/
def shp (k : Int) : Int × Int × Int :=
  if k = 0 ∨ k = 1 then (0, 0, 0) else if k = 16 ∨ k = 2 then (1, 0, 0) else if k = 17 ∨ k = 5 then (2, 0, 0) else if k = 4 then (3, 0, 0)
  else if k = 28 ∨ k = 8 then (2, 0, 200) else if k = 6 then (1, 0, 200) else if k = 7 then (0, 1, 200) else if k = 24 then (3, 1, 20)
  else if k = 26 ∨ k = 27 then (0, 8, 8) else if k = 48 then (0, 0, 200) else (-1, 0, 0)
theorem kinds (k : Int) : k = 0 ∨ k = 1 ∨ k = 2 ∨ k = 4 ∨ k = 5 ∨ k = 6 ∨ k = 7 ∨ k = 8 ∨ k = 16 ∨ k = 17 ∨ k = 24 ∨ k = 26 ∨ k = 27 ∨ k = 28 ∨ k = 48 ∨
    (k ≠ 0 ∧ k ≠ 1 ∧ k ≠ 2 ∧ k ≠ 4 ∧ k ≠ 5 ∧ k ≠ 6 ∧ k ≠ 7 ∧ k ≠ 8 ∧ k ≠ 16 ∧ k ≠ 17 ∧ k ≠ 24 ∧ k ≠ 26 ∧ k ≠ 27 ∧ k ≠ 28 ∧ k ≠ 48) := by omega
theorem shp_none (k : Int) (h : k ≠ 0 ∧ k ≠ 1 ∧ k ≠ 2 ∧ k ≠ 4 ∧ k ≠ 5 ∧ k ≠ 6 ∧ k ≠ 7 ∧ k ≠ 8 ∧ k ≠ 16 ∧ k ≠ 17 ∧ k ≠ 24 ∧ k ≠ 26 ∧ k ≠ 27 ∧ k ≠ 28 ∧ k ≠ 48) : shp k = (-1, 0, 0) := by
  unfold shp; simp [h]

/-- a frame, as a value -/
abbrev fv (k a b c : Int) (fin : Bool) (s : ByteArray) (g off n cap : Nat) : Value := .agg #[.int .i64 k, .int .i64 a, .int .i64 b, .int .i64 c, .bool fin, .string s, .slice (some ⟨g, off, none⟩) n cap]
def knB (n : Int) : Bool := decide (0 ≤ n ∧ n ≤ 4611686018427387903)
/-- a good frame, as the model says it -/
def gf (k a b c : Int) (fin : Bool) (len n : Nat) (F T : Nat → Int) : Bool :=
  decide (0 ≤ (shp k).1 ∧ knB a = true ∧ knB b = true ∧ knB c = true ∧ (shp k).2.1 ≤ len ∧ len ≤ (shp k).2.2 ∧ (fin = true → k = 8) ∧
    ((shp k).1 < 3 → c = 0) ∧ ((shp k).1 < 2 → b = 0) ∧ ((shp k).1 < 1 → a = 0) ∧ (k = 2 ↔ 0 < n) ∧ (k = 2 → allR F T n = true ∧ n ≤ 20) ∧
    (k = 6 → a ≤ 4611686018427387903 - len) ∧ (k = 8 → b ≤ 4611686018427387903 - len) ∧ (k = 24 → b ≤ a ∧ c ≤ 255))

theorem knB_yes {n : Int} (h : knB n = true) : 0 ≤ n ∧ n ≤ 4611686018427387903 := by unfold knB at h; simpa using h
theorem knB_no {n : Int} (h : ¬ knB n = true) : ¬ (0 ≤ n ∧ n ≤ 4611686018427387903) := by unfold knB at h; simpa using h

end Go.Proofs.Ytagnkelpdgpigaa
