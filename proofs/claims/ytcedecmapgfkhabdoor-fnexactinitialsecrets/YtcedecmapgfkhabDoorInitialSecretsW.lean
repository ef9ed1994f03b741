/-
  The law on InitialSecrets, walked.
-/
import Derived.Test.YtcedecmapgfkhabDoorIsc
namespace Go.Proofs.YtcedecmapgfkhabDoor.fnExactInitialSecrets
open Go.ChangeShapes Go.WideShapes Go.ChangeAt Go.RowKit
set_option linter.unusedVariables false

theorem walk_same (a0 : ByteArray) (t0 t1 : ByteArray) (b : Bool) (l0 : a0.size ≤ 1048576) (w : World) (hT : Rt w)
    (HS : ∀ W, Calls Tryd.prog 16 #[.string a0] W fun e w' => e = .returned (.tuple #[.string t0, .string t1, .bool b]) ∧ Below W.heap.size W w')
    (HI : ∀ W, Rt W → Calls Tryd.prog 17 #[.string a0] W fun e w' => e = .returned (.tuple #[.string t0, .string t1, .bool b]) ∧ Below W.heap.size W w') :
    Calls Tryd.prog 7 #[.string a0] w fun e w' => e = .returned (.bool true) ∧ Below w.heap.size w w' := by
  have HT := hide hT
  have H1 := hide HS
  have H2 := hide HI
  clear HS HI hT
  have h0 : ¬ (1048576 : Int) < a0.size := by omega
  go_enter Tryd.func7, Tryd.ntmps7
  go_wp2_with (first | (go_at_call 16; refine (unhide H1 _).mono ?_; rintro e w1 ⟨rfl, b1⟩) | (go_at_call 17; refine (unhide H2 _ ((unhide HT).kept b1)).mono ?_; rintro e w2 ⟨rfl, b2⟩))
  go_ret
  exact ⟨rfl, b1.trans (b2.mono b1.size)⟩
theorem walk (a0 : ByteArray) (k0 : a0.size ≤ maxLen) (w : World) (hT : Rt w) :
    Calls Tryd.prog 7 #[.string a0] w fun e w' => e = .returned (.bool true) ∧ Below w.heap.size w w' := by
  unfold maxLen at k0
  by_cases l0 : (1048576 : Int) < a0.size
  · go_enter Tryd.func7, Tryd.ntmps7
    go_wp2
    go_ret
    exact ⟨rfl, Below.refl _ _⟩
  by_cases h : a0.size ≤ 20
  · exact walk_same a0 _ _ true (by omega) w hT (specInitial_ok a0 h) (implInitial_ok a0 h)
  · exact walk_same a0 _ _ false (by omega) w hT (specInitial_no a0 h (by omega)) (fun W _ => implInitial_no a0 h (by omega) W)
end Go.Proofs.YtcedecmapgfkhabDoor.fnExactInitialSecrets
