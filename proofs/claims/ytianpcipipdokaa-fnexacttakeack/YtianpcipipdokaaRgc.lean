/-
  Contracts: PutNumber and HasNumber of the model.
-/
import Derived.Test.YtianpcipipdokaaRgb
namespace Go.Proofs.Ytianpcipipdokaa.Rc
open Go.ChangeShapes Go.WideShapes Go.ChangeAt Go.RowKit Go.Deep
set_option linter.unusedVariables false
set_option maxRecDepth 100000

/-- a number as it is told -/
def knB (n : Int) : Bool := decide (0 ≤ n) && decide (n ≤ 4611686018427387903)
theorem specKn (n : Int) (w : World) : Calls Try.prog 46 #[.int .i64 n] w fun e w' => e = .returned (.bool (knB n)) ∧ w' = w := by
  have H := hide (inB n 0 4611686018427387903)
  go_enter Try.func46, Try.ntmps46
  go_wp2_with fail
  refine (unhide H _).mono ?_
  rintro e w1 ⟨rfl, h9⟩
  rw [h9]
  clear h9 w1
  go_wp2
  go_ret
  exact ⟨rfl, rfl⟩
/-- whether a number is put, and what comes of it -/
def pnB (L : List RangeD) (n : Int) : Bool := grB L && knB n
def pnL (L : List RangeD) (n : Int) : Bool → List RangeD
  | true => (putG L ⟨n, n⟩ false).take 20
  | false => []
theorem pnL_len (L : List RangeD) (n : Int) (r : Bool) : (pnL L n r).length ≤ 20 := by
  cases r with
  | true => show ((putG L ⟨n, n⟩ false).take 20).length ≤ 20; rw [List.length_take]; omega
  | false => exact Nat.zero_le _
/-- whether HasNumber says yes -/
def hnB (L : List RangeD) (n : Int) : Bool := grB L && hasB L n
end Go.Proofs.Ytianpcipipdokaa.Rc
