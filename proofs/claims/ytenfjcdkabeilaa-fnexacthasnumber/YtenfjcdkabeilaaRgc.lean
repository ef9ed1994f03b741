/-
  Contracts: PutNumber and HasNumber of the model.
-/
import Derived.Test.YtenfjcdkabeilaaRgb
namespace Go.Proofs.Ytenfjcdkabeilaa.Rc
open Go.ChangeShapes Go.WideShapes Go.ChangeAt Go.RowKit Go.Deep
set_option linter.unusedVariables false
set_option maxRecDepth 100000

/-- a number as it is told -/
def knB (n : Int) : Bool := decide (0 ≤ n) && decide (n ≤ 4611686018427387903)
theorem specKn (n : Int) (w : World) : Calls Try.prog 21 #[.int .i64 n] w fun e w' => e = .returned (.bool (knB n)) ∧ w' = w := by
  have H := hide (inB n 0 4611686018427387903)
  go_enter Try.func21, Try.ntmps21
  go_wp2_with fail
  refine (unhide H _).mono ?_
  rintro e w1 ⟨rfl, h9⟩
  rw [h9]
  clear h9 w1
  go_wp2
  go_ret
  exact ⟨rfl, rfl⟩
/-- whether a number is put, and what comes of it -/
def pnB (L : List RangeD) (n : Int) : Bool := grB L && knB n
def pnL (L : List RangeD) (n : Int) : Bool → List RangeD
  | true => (putG L ⟨n, n⟩ false).take 20
  | false => []
theorem pnL_len (L : List RangeD) (n : Int) (r : Bool) : (pnL L n r).length ≤ 20 := by
  cases r with
  | true => show ((putG L ⟨n, n⟩ false).take 20).length ≤ 20; rw [List.length_take]; omega
  | false => exact Nat.zero_le _
/-- whether HasNumber says yes -/
def hnB (L : List RangeD) (n : Int) : Bool := grB L && hasB L n
set_option maxHeartbeats 4000000 in
theorem specHN (L : List RangeD) (n : Int) (hn : L.length ≤ 1048576) (ho : rgO L) (W : World) (a : Option Addr) (cap : Nat) (h : Rd rangeK W a L) :
    Calls Try.prog 5 #[.slice a L.length cap, .int .i64 n] W fun e w' => e = .returned (.tuple #[.bool (hnB L n), .bool (grB L)]) ∧ Below W.heap.size W w' := by
  have H0 := hide (specGR a cap L W hn ho h)
  have H1 := hide (fun W1 (b : Below W.heap.size W W1) => specHs a cap L n W1 hn (h.below b))
  unfold hnB
  generalize grB L = r at *
  generalize hasB L n = q at *
  clear h ho
  cases r with
  | false =>
    go_enter Try.func5, Try.ntmps5
    go_wp2_with fail
    refine (unhide H0).mono ?_
    rintro e w1 ⟨rfl, b1⟩
    have B1 := hide b1
    clear b1
    go_wp2
    go_ret2
    exact ⟨rfl, unhide B1⟩
  | true =>
    go_enter Try.func5, Try.ntmps5
    go_wp2_with fail
    refine (unhide H0).mono ?_
    rintro e w1 ⟨rfl, b1⟩
    have B1 := hide b1
    clear b1
    go_wp2_with fail
    refine (unhide H1 _ (unhide B1)).mono ?_
    rintro e w2 ⟨rfl, b2⟩
    have B2 := hide ((unhide B1).trans (b2.mono (unhide B1).size))
    clear b2
    go_wp2
    go_ret2
    exact ⟨rfl, unhide B2⟩
end Go.Proofs.Ytenfjcdkabeilaa.Rc
