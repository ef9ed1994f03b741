/-
  Contract: AckedBytes of the program.
-/
import Derived.Test.YtpjpmlopmknllaaChm
namespace Go.Proofs.Ytpjpmlopmknllaa.Rc
open Go.ChangeShapes Go.WideShapes Go.ChangeAt Go.RowKit Go.Deep
set_option linter.unusedVariables false
set_option maxRecDepth 100000

set_option maxHeartbeats 4000000 in
theorem implAB (D : WindowD) (o : okWindow D) (n : Int) (t : Int) (on : okI n) (ot : okI t) (w : World) : Calls Try.prog 15 #[windowV D, .int .i64 n, .int .i64 t] w fun e w' => e = .returned (.tuple #[windowV (abD D n t (abB D n t)), .bool (abB D n t)]) ∧ Below w.heap.size w w' := by
  obtain ⟨V0, hV0⟩ : ∃ V, V = (w.alloc (.cells (windowC D).toArray 24)).alloc (.cells #[.int .i64 0, .int .i64 0, .int .i64 0, .int .i64 0] 24) := ⟨_, rfl⟩
  have y0 := (show Bx V0 w.heap.size (windowC D) by rw [hV0]; exact (Bx.new w (windowC D) _).alloc _).cv
  have Z0 := hide (show Bx V0 (w.heap.size + 1) [.int .i64 0, .int .i64 0, .int .i64 0, .int .i64 0] by rw [hV0]; exact Bx.newAt (w.alloc _) _ _ _ (by simp))
  have B0 := hide (show Below w.heap.size w V0 by rw [hV0]; exact ((Below.refl w.heap.size w).alloc (Nat.le_refl _) _).alloc (by simp) _)
  have HV0 := hide hV0
  have HC := hide (chg_a n t D)
  clear hV0 o
  generalize abD D n t (abB D n t) = E at *
  generalize abB D n t = r at *
  go_enter Try.func15, Try.ntmps15
  go_upto_region 1 with fail
  rw [← unhide HV0]
  clear HV0
  go_wp2_with fail
  refine (unhide HC _).mono ?_
  rintro e w1 ⟨rfl, b1⟩
  have Z1 := (unhide Z0).below b1
  have B1 := hide ((unhide B0).trans (b1.mono (unhide B0).size))
  have z1 := Z1.cv
  have z1f := Z1.fz
  have z1l := Z1.lt
  clear b1 y0 Z0 B0 HC
  go_wp2
  refine bodyPost_ret (v := .tuple #[windowV E, .bool r]) (by simp [results, Try.results15, go_sem, z1]) rfl ⟨rfl, ?_⟩
  repeat (refine Below.setCell ?_ (by simp) _)
  exact unhide B1
end Go.Proofs.Ytpjpmlopmknllaa.Rc
