/-
  The law on ReadCapsules, walked.
-/
import Derived.Test.YtgieglpjkjncfaaReadCapsulesG
namespace Go.Proofs.Ytgieglpjkjncfaa.fnExactReadCapsules
open Go.ChangeShapes Go.WideShapes Go.ChangeAt Go.RowKit Go.Deep Rc
set_option linter.unusedVariables false
set_option maxRecDepth 100000

theorem readC_len (s : ByteArray) : ((readC s).getD ([], 0)).1.length ≤ 1048576 := by
  cases h : readC s with
  | none => exact Nat.zero_le _
  | some x =>
    obtain ⟨L, n⟩ := x
    unfold readC at h
    split at h
    · have := (fdC_k h).2.1
      show L.length ≤ _
      omega
    · cases h
theorem walk (s : ByteArray) (_ : s.size ≤ maxLen) (w : World) :
    Calls Try.prog 3 #[.string s] w fun e w' => e = .returned (.bool true) ∧ Below w.heap.size w w' :=
  readCapsules_given s ((readC s).getD ([], 0)).1 (((readC s).getD ([], 0)).2 : Int) (readC s).isSome w (readC_len s)
    (fun hs W => (specRC s W hs).mono fun e w' ⟨⟨a, c, he, R⟩, B⟩ => ⟨a, c, he, ro_rd R, B⟩)
    (fun hs W b => (implRC s W hs).mono fun e w' ⟨⟨a, c, he, R⟩, B⟩ => ⟨a, c, he, ro_ri R, B⟩)
end Go.Proofs.Ytgieglpjkjncfaa.fnExactReadCapsules
