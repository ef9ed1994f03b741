/-
  The law on NextSecret, walked.
-/
import Derived.Test.YtlphaciboaicgaaDoorE6y
namespace Go.Proofs.YtlphaciboaicgaaDoor.fnExactNextSecret
open Go.ChangeShapes Go.WideShapes Go.ChangeAt Go.RowKit
set_option linter.unusedVariables false

theorem walk_same (a0 : ByteArray) (t0 : ByteArray) (b : Bool) (l0 : a0.size ≤ 1048576) (w : World) (hT : Rt w)
    (HS : ∀ W, Calls Tryd.prog 8 #[.string a0] W fun e w' => e = .returned (.tuple #[.string t0, .bool b]) ∧ Below W.heap.size W w')
    (HI : ∀ W, Rt W → Calls Tryd.prog 9 #[.string a0] W fun e w' => e = .returned (.tuple #[.string t0, .bool b]) ∧ Below W.heap.size W w') :
    Calls Tryd.prog 4 #[.string a0] w fun e w' => e = .returned (.bool true) ∧ Below w.heap.size w w' := by
  have HT := hide hT
  have H1 := hide HS
  have H2 := hide HI
  clear HS HI hT
  have h0 : ¬ (1048576 : Int) < a0.size := by omega
  go_enter Tryd.func4, Tryd.ntmps4
  go_wp2_with (first | (go_at_call 8; refine (unhide H1 _).mono ?_; rintro e w1 ⟨rfl, b1⟩) | (go_at_call 9; refine (unhide H2 _ ((unhide HT).kept b1)).mono ?_; rintro e w2 ⟨rfl, b2⟩))
  go_ret
  exact ⟨rfl, b1.trans (b2.mono b1.size)⟩
theorem walk (a0 : ByteArray) (k0 : a0.size ≤ maxLen) (w : World) (hT : Rt w) :
    Calls Tryd.prog 4 #[.string a0] w fun e w' => e = .returned (.bool true) ∧ Below w.heap.size w w' := by
  unfold maxLen at k0
  by_cases l0 : (1048576 : Int) < a0.size
  · go_enter Tryd.func4, Tryd.ntmps4
    go_wp2
    go_ret
    exact ⟨rfl, Below.refl _ _⟩
  by_cases h : a0.size ≤ 500
  · exact walk_same a0 _ true (by omega) w hT (specNS_ok a0 h) (implNS_ok a0 h)
  · exact walk_same a0 _ false (by omega) w hT (specNS_no a0 h (by omega)) (fun W _ => implNS_no a0 h (by omega) W)
end Go.Proofs.YtlphaciboaicgaaDoor.fnExactNextSecret
