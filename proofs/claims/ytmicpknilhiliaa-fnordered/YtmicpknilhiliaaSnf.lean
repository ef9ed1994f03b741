/-
  Contracts: between, goodBuffer and NewInflow of the program.
-/
import Derived.Test.YtmicpknilhiliaaStg
namespace Go.Proofs.Ytmicpknilhiliaa.Rc
open Go.ChangeShapes Go.WideShapes Go.ChangeAt Go.RowKit Go.Deep
set_option linter.unusedVariables false
set_option maxRecDepth 100000

theorem bt4 (lo n hi : Int) (w : World) :
    Calls Try.prog 15 #[.int .i64 lo, .int .i64 n, .int .i64 hi] w fun e w' => e = .returned (.bool (decide (lo ≤ n) && decide (n ≤ hi))) ∧ w' = w := by
  by_cases h : lo ≤ n
  · have h1 : decide (lo ≤ n) = true := by simpa using h
    go_enter Try.func15, Try.ntmps15
    go_wp2
    go_ret
    exact ⟨by rw [h1]; rfl, rfl⟩
  · have h1 : decide (lo ≤ n) = false := by simpa using h
    go_enter Try.func15, Try.ntmps15
    go_wp2
    go_ret
    exact ⟨rfl, rfl⟩
theorem implGb (n : Int) (w : World) : Calls Try.prog 23 #[.int .i64 n] w fun e w' => e = .returned (.bool (niB n)) ∧ w' = w := by
  have H := hide (bt4 0 n 4000)
  go_enter Try.func23, Try.ntmps23
  go_wp2_with fail
  refine (unhide H _).mono ?_
  rintro e w1 ⟨rfl, h9⟩
  rw [h9]
  clear h9 w1
  go_wp2
  go_ret
  exact ⟨rfl, rfl⟩
set_option maxHeartbeats 2000000 in
theorem implNI (n : Int) (w : World) : Calls Try.prog 10 #[.int .i64 n] w fun e w' => e = .returned (.tuple #[inflowV (niD n (niB n)) none 0, .bool (niB n)]) ∧ Below w.heap.size w w' := by
  have HI := hide (implGb n)
  have al : Hid (∀ o, Below w.heap.size w (w.alloc o)) := fun o => (Below.refl w.heap.size w).alloc (Nat.le_refl _) o
  generalize niB n = r at *
  cases r with
  | false =>
    go_enter Try.func10, Try.ntmps10
    go_wp2_with fail
    refine (unhide HI _).mono ?_
    rintro e w1 ⟨rfl, h9⟩
    rw [h9]
    clear h9 w1
    go_wp2
    refine bodyPost_ret (v := .tuple #[.agg #[.int .i64 0, .int .i64 0, .int .i64 0, .slice none 0 0], .bool false]) (by simp [results, Try.results10, go_sem]) rfl ⟨rfl, ?_⟩
    repeat (refine Below.setCell ?_ (by simp) _)
    exact unhide al _
  | true =>
    go_enter Try.func10, Try.ntmps10
    go_wp2_with fail
    refine (unhide HI _).mono ?_
    rintro e w1 ⟨rfl, h9⟩
    rw [h9]
    clear h9 w1
    go_wp2
    refine bodyPost_ret (v := .tuple #[.agg #[.int .i64 n, .int .i64 0, .int .i64 (-1), .slice none 0 0], .bool true]) (by simp [results, Try.results10, go_sem]) rfl ⟨rfl, ?_⟩
    repeat (refine Below.setCell ?_ (by simp) _)
    exact unhide al _
end Go.Proofs.Ytmicpknilhiliaa.Rc
