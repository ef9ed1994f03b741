/-
  The law on ScoreOf, walked.
-/
import Derived.Test.YtpjmnnaiegdjmaaDoorSco
namespace Go.Proofs.YtpjmnnaiegdjmaaDoor.fnExactScoreOf
open Go.ChangeShapes Go.WideShapes Go.ChangeAt Go.RowKit
set_option linter.unusedVariables false

theorem soR_is (b k : ByteArray) : ∃ (n : Int) (r : Bool), soR b k = .tuple #[.int .i64 n, .bool r] := by
  unfold soR
  by_cases h : bkB b = true ∧ k.size ≤ 100
  · rw [if_pos h]; exact ⟨_, _, rfl⟩
  · rw [if_neg h]; exact ⟨_, _, rfl⟩
theorem walk (a0 : ByteArray) (k0 : a0.size ≤ maxLen) (a1 : ByteArray) (k1 : a1.size ≤ maxLen) (w : World) (hT : Rt w) :
    Calls Tryd.prog 3 #[.string a0, .string a1] w fun e w' => e = .returned (.bool true) ∧ Below w.heap.size w w' := by
  unfold maxLen at k0 k1
  by_cases l0 : (1048576 : Int) < a0.size
  · go_enter Tryd.func3, Tryd.ntmps3
    go_wp2
    go_ret
    exact ⟨rfl, Below.refl _ _⟩
  by_cases l1 : (1048576 : Int) < a1.size
  · go_enter Tryd.func3, Tryd.ntmps3
    go_wp2
    go_ret
    exact ⟨rfl, Below.refl _ _⟩
  have H1 := hide (fun W => specSc a0 a1 (by omega) (by omega) W)
  have H2 := hide (fun W (h : Rt W) => implSc a0 a1 (by omega) (by omega) W h)
  have HT := hide hT
  clear hT
  obtain ⟨n, r, e⟩ := soR_is a0 a1
  rw [e] at H1 H2
  clear e
  go_enter Tryd.func3, Tryd.ntmps3
  go_wp2_with fail
  refine (unhide H1 _).mono ?_
  rintro e w1 ⟨rfl, b1⟩
  have T1 := hide ((unhide HT).kept b1)
  have B1 := hide b1
  clear b1
  go_wp2_with fail
  refine (unhide H2 _ (unhide T1)).mono ?_
  rintro e w2 ⟨rfl, b2⟩
  have B2 := hide ((unhide B1).trans (b2.mono (unhide B1).size))
  clear b2
  go_wp2
  go_ret
  exact ⟨rfl, unhide B2⟩
end Go.Proofs.YtpjmnnaiegdjmaaDoor.fnExactScoreOf
