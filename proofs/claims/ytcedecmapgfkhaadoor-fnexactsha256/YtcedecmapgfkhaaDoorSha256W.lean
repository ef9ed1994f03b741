/-
  The law on Sha256, walked.
-/
import Derived.Test.YtcedecmapgfkhaaDoorLnw
namespace Go.Proofs.YtcedecmapgfkhaaDoor.fnExactSha256
open Go.ChangeShapes Go.WideShapes Go.ChangeAt Go.RowKit
set_option linter.unusedVariables false

theorem walk_same (s t : ByteArray) (b : Bool) (hs : s.size ≤ 1048576) (w : World) (hT : Rt w)
    (HS : ∀ W, Calls Tryd.prog 11 #[.string s] W fun e w' => e = .returned (.tuple #[.string t, .bool b]) ∧ Below W.heap.size W w')
    (HI : ∀ W, Rt W → Calls Tryd.prog 10 #[.string s] W fun e w' => e = .returned (.tuple #[.string t, .bool b]) ∧ Below W.heap.size W w') :
    Calls Tryd.prog 7 #[.string s] w fun e w' => e = .returned (.bool true) ∧ Below w.heap.size w w' := by
  have HT := hide hT
  have H1 := hide HS
  have H2 := hide HI
  clear HS HI hT
  have hl : ¬ (1048576 : Int) < s.size := by omega
  go_enter Tryd.func7, Tryd.ntmps7
  go_wp2_with (first | (go_at_call 11; refine (unhide H1 _).mono ?_; rintro e w1 ⟨rfl, b1⟩) | (go_at_call 10; refine (unhide H2 _ ((unhide HT).kept b1)).mono ?_; rintro e w2 ⟨rfl, b2⟩))
  go_ret
  exact ⟨rfl, b1.trans (b2.mono b1.size)⟩
theorem walk (s : ByteArray) (hs : s.size ≤ maxLen) (w : World) (hT : Rt w) :
    Calls Tryd.prog 7 #[.string s] w fun e w' => e = .returned (.bool true) ∧ Below w.heap.size w w' := by
  unfold maxLen at hs
  by_cases hl : (1048576 : Int) < s.size
  · go_enter Tryd.func7, Tryd.ntmps7
    go_wp2
    go_ret
    exact ⟨rfl, Below.refl _ _⟩
  by_cases h4 : s.size ≤ 4000
  · exact walk_same s _ true (by omega) w hT (specSha_ok s h4) (implSha_ok s h4)
  · exact walk_same s _ false (by omega) w hT (specSha_no s h4 (by omega)) (fun W _ => implSha_no s h4 (by omega) W)
end Go.Proofs.YtcedecmapgfkhaaDoor.fnExactSha256
