/-
  The law on DestOf, walked.
-/
import Derived.Test.YthdcekfmfifliaaDss
import Derived.Test.YthdcekfmfifliaaDsj
namespace Go.Proofs.Ythdcekfmfifliaa.fnExactDestOf
open Go.ChangeShapes Go.WideShapes Go.ChangeAt Go.RowKit
set_option linter.unusedVariables false

theorem walk_big (s : ByteArray) (hs : s.size ≤ maxLen) (short : Int) (w : World) (hl : (1048576 : Int) < s.size) :
    Calls Try.prog 3 #[.string s, .int .i64 short] w fun e w' => e = .returned (.bool true) ∧ Below w.heap.size w w' := by
  unfold maxLen at hs
  go_enter Try.func3, Try.ntmps3
  go_wp2
  go_ret
  exact ⟨rfl, Below.refl _ _⟩
theorem walk_same (s t : ByteArray) (b c : Bool) (hs : s.size ≤ 1048576) (short : Int) (w : World)
    (HS : ∀ W, Calls Try.prog 4 #[.string s, .int .i64 short] W fun e w' => e = .returned (.tuple #[.string t, .bool b, .bool c]) ∧ Below W.heap.size W w')
    (HI : ∀ W, Calls Try.prog 5 #[.string s, .int .i64 short] W fun e w' => e = .returned (.tuple #[.string t, .bool b, .bool c]) ∧ Below W.heap.size W w') :
    Calls Try.prog 3 #[.string s, .int .i64 short] w fun e w' => e = .returned (.bool true) ∧ Below w.heap.size w w' := by
  have H1 := hide HS
  have H2 := hide HI
  clear HS HI
  have hl : ¬ (1048576 : Int) < s.size := by omega
  go_enter Try.func3, Try.ntmps3
  go_wp2_with (first | (go_at_call 4; refine (unhide H1 _).mono ?_; rintro e w1 ⟨rfl, b1⟩) | (go_at_call 5; refine (unhide H2 _).mono ?_; rintro e w2 ⟨rfl, b2⟩))
  go_ret
  exact ⟨rfl, b1.trans (b2.mono b1.size)⟩
theorem walk (s : ByteArray) (hs : s.size ≤ maxLen) (short : Int) (w1 : (Lit.int .i64 short).wf = true) (w : World) :
    Calls Try.prog 3 #[.string s, .int .i64 short] w fun e w' => e = .returned (.bool true) ∧ Below w.heap.size w w' := by
  by_cases hl : (1048576 : Int) < s.size
  · exact walk_big s hs short w hl
  by_cases hsh : 0 ≤ short ∧ short ≤ 20
  · obtain ⟨k, rfl⟩ := Int.eq_ofNat_of_zero_le hsh.1
    cases hR : dR s k with
    | none =>
      refine walk_same s ⟨#[]⟩ false false (by omega) k w (fun W => ?_) (fun W => implDest_none s k W (by omega) (by omega) hR)
      have := specDest_any s k W (by omega) (by omega)
      rw [hR] at this
      exact this
    | some x =>
      refine walk_same s x.1 x.2 true (by omega) k w (fun W => ?_) (fun W => implDest_some s k W x (by omega) (by omega) hR)
      have := specDest_any s k W (by omega) (by omega)
      rw [hR] at this
      exact this
  · exact walk_same s ⟨#[]⟩ false false (by omega) short w (fun W => specDest_wild s short W hsh) (fun W => implDest_wild s short W hsh)
end Go.Proofs.Ythdcekfmfifliaa.fnExactDestOf
