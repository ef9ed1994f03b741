/-
  The law on ProbeTime, walked out of the program's contract.
-/
import Derived.Test.YtjmknfedanmcnabRts
namespace Go.Proofs.Ytjmknfedanmcnab.Rc
open Go.ChangeShapes Go.WideShapes Go.ChangeAt Go.RowKit Go.Deep
set_option linter.unusedVariables false
set_option maxRecDepth 100000

set_option maxHeartbeats 2000000 in
theorem probeTime_given (D : RttD) (de tr : Int) (w : World)
    (HI : ∀ W, Calls Try.prog 21 #[rttV D, .int .i64 de, .int .i64 tr] W fun e w' => e = .returned (.tuple #[.int .i64 (ptN D de tr (ptB D de tr)), .bool (ptB D de tr)]) ∧ Below W.heap.size W w') :
    Calls Try.prog 4 #[rttV D, .int .i64 de, .int .i64 tr] w fun e w' => e = .returned (.bool true) ∧ Below w.heap.size w w' := by
  have H1 := hide (toRtt_any D)
  have H2 := hide (specPT D de tr)
  have H3 := hide HI
  clear HI
  generalize ptN D de tr (ptB D de tr) = E at *
  generalize ptB D de tr = r at *
  have I0 := hide (Iv.push (w := w) (w3 := w) (V := w) (xs := []) ⟨Below.refl _ _, Below.refl _ _, fun p hp => (by cases hp)⟩ (rttC D) 24)
  go_enter Try.func4, Try.ntmps4
  go_wp2_with fail
  refine (unhide H1 _).mono ?_
  rintro e w1 ⟨rfl, b1⟩
  have J1 := hide ((unhide I0).below b1)
  clear b1 I0
  go_wp2_with fail
  refine (unhide H2 _).mono ?_
  rintro e w2 ⟨rfl, b2⟩
  have J2 := hide ((unhide J1).below b2)
  have x2 := ((unhide J2).bx _ (List.mem_cons_self)).cv
  clear b2 J1
  go_wp2_with fail
  refine (unhide H1 _).mono ?_
  rintro e w3 ⟨rfl, b3⟩
  have J4 := hide ((unhide J2).below b3)
  clear b3 J2 x2
  go_wp2_with fail
  refine (unhide H3 _).mono ?_
  rintro e w4 ⟨rfl, b4⟩
  have J5 := hide ((unhide J4).below b4)
  clear b4 J4
  go_wp2
  go_ret
  exact ⟨rfl, (unhide J5).b0⟩
end Go.Proofs.Ytjmknfedanmcnab.Rc
