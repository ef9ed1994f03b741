/-
  Contracts: what comes of a stream, of the model: whether it is good, where it ends, whether a piece clashes.
-/
import Derived.Test.YtagnkelpdgpigaaStq
import Derived.Test.YtagnkelpdgpigaaInb
import Derived.Deep.RegionLaw
import Derived.Deep.RegionHeld3
import Derived.Laws.Cover1
namespace Go.Proofs.Ytagnkelpdgpigaa.Rc
open Go.ChangeShapes Go.WideShapes Go.ChangeAt Go.RowKit Go.Deep
set_option linter.unusedVariables false
set_option maxRecDepth 100000

theorem sz_nil (s : ByteArray) : s.toList = [] ↔ s.size = 0 := by
  have h : s.toList.length = s.size := by rw [Lib.toList_data, Array.length_toList]; rfl
  constructor
  · intro e; rw [e] at h; simpa using h.symm
  · intro e; rw [e] at h; exact List.length_eq_zero_iff.1 h
theorem em_no {s : ByteArray} (h : ¬ s.toList = []) : s.toList.isEmpty = false := by
  cases e : s.toList with
  | nil => exact absurd e h
  | cons a l => rfl
/-- numbers and texts that don't run over -/
def okP (P : List PieceD) : Prop := ∀ p ∈ P, (-4611686018427387904 ≤ p.f0 ∧ p.f0 ≤ 4611686018427387904) ∧ p.f1.size ≤ 1099511627776
def okN (n : Int) : Prop := -4611686018427387904 ≤ n ∧ n ≤ 4611686018427387904
def okF (D : InflowD) : Prop := okN D.li ∧ okN D.re ∧ okN D.fi ∧ okP D.P ∧ D.P.length ≤ 1048576
theorem dropP {P : List PieceD} {k : Nat} (h : k < P.length) : P.drop k = gt pieceK P k :: P.drop (k + 1) := by rw [gt_of pieceK P k h]; exact List.drop_eq_getElem_cons h
def niB (n : Int) : Bool := decide (0 ≤ n) && decide (n ≤ 4000)
def niD (n : Int) : Bool → InflowD
  | true => ⟨n, 0, -1, []⟩
  | false => infZ
end Go.Proofs.Ytagnkelpdgpigaa.Rc
