/-
  Rows of the call's own, beside blocks.
-/
import Derived.Test.YtkpodgeinanceaaAbo
import Derived.Test.YtkpodgeinanceaaObs
namespace Go.Proofs.Ytkpodgeinanceaa
open Go.ChangeShapes Go.WideShapes Go.ChangeAt Go.RowKit
set_option linter.unusedVariables false

theorem take_us (N p m : Nat) (f : Nat → Nat) (h : p + m ≤ N) : List.take m (List.drop p (us N f)) = us m (fun i => f (p + i)) := by
  apply List.ext_getElem
  · simp [us_def]; omega
  · intro i h1 h2
    simp [us_def]
/-- a row of an array of blocks that was loaded -/
theorem idx_rows (R : Nat) (t : TypeId) (f : Nat → Nat) (k : Nat) (hk : k < R) (hu : Try.prog.underlying t = some (.array R 84)) (w : World) :
    (Instr.index t (.agg (us (16 * R) f).toArray) (.int .i64 k)).run Try.prog w = .ok (.agg (us 16 (fun i => f (16 * k + i))).toArray) w := by
  have h0 : (0 : Int) ≤ (k : Int) ∧ (k : Int) < (R : Int) := by omega
  have hs : (Go.sizeOf 84).run Try.prog w = .ok 16 w := by
    cases hq : Try.prog.info? 84 with
    | none => have := info_bl; simp [hq] at this
    | some i => have h9 := info_bl; simp [hq] at h9; simp [sizeOf, typeInfo, hq, h9]
  have he := take_us (16 * R) (k * 16) 16 f (by omega)
  rw [Nat.mul_comm 16 k]
  simp [Instr.index, run_underlying hu, asIntOf, h0, hs, part, isAgg, run_underlying Try.underlying84, he, go_sem]
  intro h9
  omega
end Go.Proofs.Ytkpodgeinanceaa
