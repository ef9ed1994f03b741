/-
  The law on RoomIn, walked out of the contracts of both sides.
-/
import Derived.Test.YtcmniehcabnmeabRcWindow
import Derived.Deep.DeepCutAuto
namespace Go.Proofs.Ytcmniehcabnmeab.Rc
open Go.ChangeShapes Go.WideShapes Go.ChangeAt Go.RowKit Go.Deep
set_option linter.unusedVariables false
set_option maxRecDepth 100000

set_option maxHeartbeats 2000000 in
theorem roomIn_given (D : WindowD) (k : Int) (r : Bool) (w : World) (HS : ∀ W, Calls Try.prog 5 #[windowV D] W fun e w' => e = .returned (.tuple #[.int .i64 k, .bool r]) ∧ Below W.heap.size W w') (HI : ∀ W, Calls Try.prog 7 #[windowV D] W fun e w' => e = .returned (.tuple #[.int .i64 k, .bool r]) ∧ Below W.heap.size W w') :
    Calls Try.prog 3 #[windowV D] w fun e w' => e = .returned (.bool true) ∧ Below w.heap.size w w' := by
  have H1 := hide (toWindow_any D)
  have H2 := hide HS
  have H3 := hide HI
  clear HS HI
  have I0 := hide (Iv.push (w := w) (w3 := w) (V := w) (xs := []) ⟨Below.refl _ _, Below.refl _ _, fun p hp => (by cases hp)⟩ (windowC D) 23)
  go_enter Try.func3, Try.ntmps3
  go_wp2_with fail
  refine (unhide H1 _).mono ?_
  rintro e w1 ⟨rfl, b1⟩
  have I1 := hide ((unhide I0).below b1)
  clear b1 I0
  go_wp2_with fail
  refine (unhide H2 _).mono ?_
  rintro e w2 ⟨rfl, b2⟩
  have I2 := hide ((unhide I1).below b2)
  clear b2 I1
  have z := ((unhide I2).bx _ (List.mem_cons_self)).cv
  have zl := ((unhide I2).bx _ (List.mem_cons_self)).lt
  go_wp2_with fail
  refine (unhide H1 _).mono ?_
  rintro e w3 ⟨rfl, b3⟩
  have I3 := hide ((unhide I2).below b3)
  clear b3 I2
  clear z zl
  go_wp2_with fail
  refine (unhide H3 _).mono ?_
  rintro e w4 ⟨rfl, b4⟩
  have I4 := hide ((unhide I3).below b4)
  clear b4 I3
  have B9 := hide (unhide I4).b0
  go_wp2
  go_ret
  exact ⟨rfl, unhide B9⟩
end Go.Proofs.Ytcmniehcabnmeab.Rc
