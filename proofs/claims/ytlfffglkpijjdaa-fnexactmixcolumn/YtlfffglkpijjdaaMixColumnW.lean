/-
  The law on MixColumn, walked.
-/
import Derived.Test.YtlfffglkpijjdaaGmc
namespace Go.Proofs.Ytlfffglkpijjdaa.fnExactMixColumn
open Go.ChangeShapes Go.WideShapes Go.ChangeAt Go.RowKit
set_option linter.unusedVariables false

theorem specNo (s : ByteArray) (hs : ¬ s.size = 4) (hl : s.size ≤ 1048576) (w : World) :
    Calls Try.prog 17 #[.string s] w fun e w' => e = .returned (.tuple #[.string ⟨#[]⟩, .bool false]) ∧ Below w.heap.size w w' := by
  have h1 : ((s.size : Int) != 4) = true := by simp; omega
  go_enter Try.func17, Try.ntmps17
  go_wp2
  go_ret2
  exact ⟨rfl, Below.refl _ _⟩
theorem implNo (s : ByteArray) (hs : ¬ s.size = 4) (hl : s.size ≤ 1048576) (w : World) :
    Calls Try.prog 18 #[.string s] w fun e w' => e = .returned (.tuple #[.string ⟨#[]⟩, .bool false]) ∧ Below w.heap.size w w' := by
  have h1 : ((s.size : Int) != 4) = true := by simp; omega
  go_enter Try.func18, Try.ntmps18
  go_wp2
  go_ret2
  exact ⟨rfl, Below.refl _ _⟩
theorem walk_same (s t : ByteArray) (b : Bool) (hs : s.size ≤ 1048576) (w : World)
    (HS : ∀ W, Calls Try.prog 17 #[.string s] W fun e w' => e = .returned (.tuple #[.string t, .bool b]) ∧ Below W.heap.size W w')
    (HI : ∀ W, Calls Try.prog 18 #[.string s] W fun e w' => e = .returned (.tuple #[.string t, .bool b]) ∧ Below W.heap.size W w') :
    Calls Try.prog 7 #[.string s] w fun e w' => e = .returned (.bool true) ∧ Below w.heap.size w w' := by
  have H1 := hide HS
  have H2 := hide HI
  clear HS HI
  have hl : ¬ (1048576 : Int) < s.size := by omega
  go_enter Try.func7, Try.ntmps7
  go_wp2_with (first | (go_at_call 17; refine (unhide H1 _).mono ?_; rintro e w1 ⟨rfl, b1⟩) | (go_at_call 18; refine (unhide H2 _).mono ?_; rintro e w2 ⟨rfl, b2⟩))
  go_ret
  exact ⟨rfl, b1.trans (b2.mono b1.size)⟩
theorem walk (s : ByteArray) (hs : s.size ≤ maxLen) (w : World) :
    Calls Try.prog 7 #[.string s] w fun e w' => e = .returned (.bool true) ∧ Below w.heap.size w w' := by
  unfold maxLen at hs
  by_cases hl : (1048576 : Int) < s.size
  · go_enter Try.func7, Try.ntmps7
    go_wp2
    go_ret
    exact ⟨rfl, Below.refl _ _⟩
  by_cases h4 : s.size = 4
  · exact walk_same s _ true (by omega) w (specMC s h4) (implMC s h4)
  · exact walk_same s _ false (by omega) w (specNo s h4 (by omega)) (implNo s h4 (by omega))
end Go.Proofs.Ytlfffglkpijjdaa.fnExactMixColumn
