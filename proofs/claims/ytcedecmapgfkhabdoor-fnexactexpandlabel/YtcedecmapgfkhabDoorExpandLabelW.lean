/-
  The law on ExpandLabel, walked.
-/
import Derived.Test.YtcedecmapgfkhabDoorLli
import Derived.Test.YtcedecmapgfkhabDoorIli
namespace Go.Proofs.YtcedecmapgfkhabDoor.fnExactExpandLabel
open Go.ChangeShapes Go.WideShapes Go.ChangeAt Go.RowKit
set_option linter.unusedVariables false

theorem walk_same (a0 : ByteArray) (a1 : ByteArray) (a2 : Int) (t0 : ByteArray) (b : Bool) (l0 : a0.size ≤ 1048576) (l1 : a1.size ≤ 1048576) (w : World) (hT : Rt w)
    (HS : ∀ W, Calls Tryd.prog 14 #[.string a0, .string a1, .int .i64 a2] W fun e w' => e = .returned (.tuple #[.string t0, .bool b]) ∧ Below W.heap.size W w')
    (HI : ∀ W, Rt W → Calls Tryd.prog 15 #[.string a0, .string a1, .int .i64 a2] W fun e w' => e = .returned (.tuple #[.string t0, .bool b]) ∧ Below W.heap.size W w') :
    Calls Tryd.prog 6 #[.string a0, .string a1, .int .i64 a2] w fun e w' => e = .returned (.bool true) ∧ Below w.heap.size w w' := by
  have HT := hide hT
  have H1 := hide HS
  have H2 := hide HI
  clear HS HI hT
  have h0 : ¬ (1048576 : Int) < a0.size := by omega
  have h1 : ¬ (1048576 : Int) < a1.size := by omega
  go_enter Tryd.func6, Tryd.ntmps6
  go_wp2_with (first | (go_at_call 14; refine (unhide H1 _).mono ?_; rintro e w1 ⟨rfl, b1⟩) | (go_at_call 15; refine (unhide H2 _ ((unhide HT).kept b1)).mono ?_; rintro e w2 ⟨rfl, b2⟩))
  go_ret
  exact ⟨rfl, b1.trans (b2.mono b1.size)⟩
theorem walk (a0 : ByteArray) (k0 : a0.size ≤ maxLen) (a1 : ByteArray) (k1 : a1.size ≤ maxLen) (a2 : Int) (k2 : (Lit.int .i64 a2).wf = true) (w : World) (hT : Rt w) :
    Calls Tryd.prog 6 #[.string a0, .string a1, .int .i64 a2] w fun e w' => e = .returned (.bool true) ∧ Below w.heap.size w w' := by
  unfold maxLen at k0
  unfold maxLen at k1
  by_cases l0 : (1048576 : Int) < a0.size
  · go_enter Tryd.func6, Tryd.ntmps6
    go_wp2
    go_ret
    exact ⟨rfl, Below.refl _ _⟩
  by_cases l1 : (1048576 : Int) < a1.size
  · go_enter Tryd.func6, Tryd.ntmps6
    go_wp2
    go_ret
    exact ⟨rfl, Below.refl _ _⟩
  by_cases h : a0.size ≤ 500 ∧ a1.size ≤ 40 ∧ 0 ≤ a2 ∧ a2 ≤ 255
  · exact walk_same a0 a1 a2 _ true (by omega) (by omega) w hT (specLabel_ok a0 a1 a2 h) (implLabel_ok a0 a1 a2 h)
  · exact walk_same a0 a1 a2 _ false (by omega) (by omega) w hT (specLabel_no a0 a1 a2 h (by omega) (by omega) k2) (fun W _ => implLabel_no a0 a1 a2 h (by omega) (by omega) k2 W)
end Go.Proofs.YtcedecmapgfkhabDoor.fnExactExpandLabel
