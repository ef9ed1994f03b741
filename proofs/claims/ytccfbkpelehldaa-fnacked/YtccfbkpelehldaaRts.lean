/-
  Contracts: SampleRtt and ProbeTime of the model, the laws' copies of round trips.
-/
import Derived.Test.YtccfbkpelehldaaRtt
namespace Go.Proofs.Ytccfbkpelehldaa.Rc
open Go.ChangeShapes Go.WideShapes Go.ChangeAt Go.RowKit Go.Deep
set_option linter.unusedVariables false
set_option maxRecDepth 100000

/-- whether a sample is taken -/
def srB (D : RttD) (la de : Int) : Bool := rtB D && (tkB la && tkB de)
/-- what comes of it -/
def srD (D : RttD) (la de : Int) : Bool → RttD
  | true => smD D la de
  | false => ⟨false, 0, 0, 0, 0⟩
/-- whether a time to wait is told -/
def ptB (D : RttD) (de tr : Int) : Bool := rtB D && (tkB de && (decide (0 ≤ tr) && decide (tr ≤ 10)))
/-- four times how far it goes, at least 1 -/
def ptV (D : RttD) : Int := if 4 * D.va < 1 then 1 else 4 * D.va
/-- the first wait -/
def ptF (D : RttD) (de : Int) : Int := if D.kn = true then D.sm + ptV D + de else 1000
/-- what is waited -/
def ptN (D : RttD) (de tr : Int) : Bool → Int
  | true => ptF D de * 2 ^ tr.toNat
  | false => 0
theorem wrap_shl (n : Int) (k : Nat) (h0 : 0 ≤ n) (h1 : n ≤ 10000000000) (hk : k ≤ 10) : wrap64 (n * 2 ^ k) = n * 2 ^ k := by
  have h : k = 0 ∨ k = 1 ∨ k = 2 ∨ k = 3 ∨ k = 4 ∨ k = 5 ∨ k = 6 ∨ k = 7 ∨ k = 8 ∨ k = 9 ∨ k = 10 := by omega
  rcases h with rfl | rfl | rfl | rfl | rfl | rfl | rfl | rfl | rfl | rfl | rfl <;> (unfold wrap64; simp only [Int.reducePow]; omega)
end Go.Proofs.Ytccfbkpelehldaa.Rc
