/-
  The law on KeyOf, walked.
-/
import Derived.Test.YtldjenhknejpnaaKof
namespace Go.Proofs.Ytldjenhknejpnaa.fnExactKeyOf
open Go.ChangeShapes Go.WideShapes Go.ChangeAt Go.RowKit
set_option linter.unusedVariables false

theorem walk (a0 : ByteArray) (k0 : a0.size ≤ maxLen) (a1 : ByteArray) (k1 : a1.size ≤ maxLen) (a2 : Bool) (w : World) :
    Calls Try.prog 5 #[.string a0, .string a1, .bool a2] w fun e w' => e = .returned (.bool true) ∧ Below w.heap.size w w' := by
  unfold maxLen at k0 k1
  by_cases l0 : (1048576 : Int) < a0.size
  · go_enter Try.func5, Try.ntmps5
    go_wp2
    go_ret
    exact ⟨rfl, Below.refl _ _⟩
  by_cases l1 : (1048576 : Int) < a1.size
  · go_enter Try.func5, Try.ntmps5
    go_wp2
    go_ret
    exact ⟨rfl, Below.refl _ _⟩
  have H1 := hide (specKyo a0 a1 a2 (by omega) (by omega))
  have H2 := hide (implKy a0 a1 a2 (by omega) (by omega))
  generalize kyR a0 a1 a2 (kyB a0 a1) = r at *
  generalize kyB a0 a1 = b at *
  go_enter Try.func5, Try.ntmps5
  go_wp2_with (first | (go_at_call 15; refine (unhide H1 _).mono ?_; rintro e w1 ⟨rfl, b1⟩) | (go_at_call 16; refine (unhide H2 _).mono ?_; rintro e w2 ⟨rfl, b2⟩))
  go_ret
  exact ⟨rfl, b1.trans (b2.mono b1.size)⟩
end Go.Proofs.Ytldjenhknejpnaa.fnExactKeyOf
