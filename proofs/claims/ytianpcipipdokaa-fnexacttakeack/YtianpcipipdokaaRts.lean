/-
  Contracts: SampleRtt and ProbeTime of the model, the laws' copies of round trips.
-/
import Derived.Test.YtianpcipipdokaaRtt
namespace Go.Proofs.Ytianpcipipdokaa.Rc
open Go.ChangeShapes Go.WideShapes Go.ChangeAt Go.RowKit Go.Deep
set_option linter.unusedVariables false
set_option maxRecDepth 100000

/-- whether a sample is taken -/
def srB (D : RttD) (la de : Int) : Bool := rtB D && (tkB la && tkB de)
/-- what comes of it -/
def srD (D : RttD) (la de : Int) : Bool → RttD
  | true => smD D la de
  | false => ⟨false, 0, 0, 0, 0⟩
/-- whether a time to wait is told -/
def ptB (D : RttD) (de tr : Int) : Bool := rtB D && (tkB de && (decide (0 ≤ tr) && decide (tr ≤ 10)))
/-- four times how far it goes, at least 1 -/
def ptV (D : RttD) : Int := if 4 * D.va < 1 then 1 else 4 * D.va
/-- the first wait -/
def ptF (D : RttD) (de : Int) : Int := if D.kn = true then D.sm + ptV D + de else 1000
/-- what is waited -/
def ptN (D : RttD) (de tr : Int) : Bool → Int
  | true => ptF D de * 2 ^ tr.toNat
  | false => 0
set_option maxHeartbeats 1000000 in
theorem toRtt_any (D : RttD) (w : World) : Calls Try.prog 27 #[rttV D] w fun e w' => e = .returned (rttV D) ∧ Below w.heap.size w w' := by
  go_enter Try.func27, Try.ntmps27
  go_wp2
  refine bodyPost_ret (v := rttV D) (by simp [results, Try.results27, go_sem]) rfl ⟨rfl, ?_⟩
  exact (((Below.refl _ _).alloc (Nat.le_refl _) _).alloc (by simp) _).alloc (by simp; omega) _
set_option maxHeartbeats 1000000 in
theorem eqRtt_same (D : RttD) (w : World) :
    Calls Try.prog 42 #[rttV D, rttV D] w fun e w' => e = .returned (.bool true) ∧ Below w.heap.size w w' := by
  go_enter Try.func42, Try.ntmps42
  go_wp2
  go_ret
  exact ⟨rfl, ((Below.refl _ _).alloc (Nat.le_refl _) _).alloc (by simp) _⟩
theorem wrap_shl (n : Int) (k : Nat) (h0 : 0 ≤ n) (h1 : n ≤ 10000000000) (hk : k ≤ 10) : wrap64 (n * 2 ^ k) = n * 2 ^ k := by
  have h : k = 0 ∨ k = 1 ∨ k = 2 ∨ k = 3 ∨ k = 4 ∨ k = 5 ∨ k = 6 ∨ k = 7 ∨ k = 8 ∨ k = 9 ∨ k = 10 := by omega
  rcases h with rfl | rfl | rfl | rfl | rfl | rfl | rfl | rfl | rfl | rfl | rfl <;> (unfold wrap64; simp only [Int.reducePow]; omega)
end Go.Proofs.Ytianpcipipdokaa.Rc
