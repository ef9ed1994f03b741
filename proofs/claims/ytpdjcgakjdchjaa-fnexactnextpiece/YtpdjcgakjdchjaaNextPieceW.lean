/-
  The law on NextPiece, walked.
-/
import Derived.Test.YtpdjcgakjdchjaaNextPieceG
import Derived.Test.YtpdjcgakjdchjaaNxi
import Derived.Test.YtpdjcgakjdchjaaNxs
namespace Go.Proofs.Ytpdjcgakjdchjaa.fnExactNextPiece
open Go.ChangeShapes Go.WideShapes Go.ChangeAt Go.RowKit Rc
set_option linter.unusedVariables false

theorem nxR_of (D : OutflowD) (m : Int) (r : Bool) : ∃ (k b : Int) (fin : Bool) (s : ByteArray), nxR D m r = frV k b fin s := by
  cases r with
  | false => exact ⟨_, _, _, _, rfl⟩
  | true => exact ⟨_, _, _, _, rfl⟩
theorem walk (D : OutflowD) (o : okOutflow D) (n : Int) (wn : (Lit.int .i64 n).wf = true) (w : World) : Calls Try.prog 5 #[outflowV D, .int .i64 n] w fun e w' => e = .returned (.bool true) ∧ Below w.heap.size w w' := by
  obtain ⟨k, b, fin, s, e⟩ := nxR_of D n (nxB D n)
  have h1 := fun (h : D.f2.size ≤ 1048576) (W : World) => specNP D n h W
  have h2 := fun (h : D.f2.size ≤ 1048576) (W : World) => implNP D n h W
  rw [e] at h1 h2
  exact nextPiece_given D n o.2.2 (nxO D n (nxB D n)) k b fin s (nxB D n) w h1 h2
end Go.Proofs.Ytpdjcgakjdchjaa.fnExactNextPiece
