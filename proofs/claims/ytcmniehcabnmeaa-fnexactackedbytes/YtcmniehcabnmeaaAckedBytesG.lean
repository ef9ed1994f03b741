/-
  The law on AckedBytes, walked out of the contracts of both sides.
-/
import Derived.Test.YtcmniehcabnmeaaRcWindow
import Derived.Deep.DeepCutAuto
namespace Go.Proofs.Ytcmniehcabnmeaa.Rc
open Go.ChangeShapes Go.WideShapes Go.ChangeAt Go.RowKit Go.Deep
set_option linter.unusedVariables false
set_option maxRecDepth 100000

set_option maxHeartbeats 2000000 in
theorem ackedBytes_given (D : WindowD) (n0 n1 : Int) (E : WindowD) (r : Bool) (w : World) (HS : ∀ W, Calls Try.prog 17 #[windowV D, .int .i64 n0, .int .i64 n1] W fun e w' => e = .returned (.tuple #[windowV E, .bool r]) ∧ Below W.heap.size W w') (HI : ∀ W, Calls Try.prog 18 #[windowV D, .int .i64 n0, .int .i64 n1] W fun e w' => e = .returned (.tuple #[windowV E, .bool r]) ∧ Below W.heap.size W w') :
    Calls Try.prog 6 #[windowV D, .int .i64 n0, .int .i64 n1] w fun e w' => e = .returned (.bool true) ∧ Below w.heap.size w w' := by
  have H1 := hide (toWindow_any D)
  have H2 := hide HS
  have H3 := hide HI
  have H4 := hide (eqWindow_same E)
  clear HS HI
  have I0 := hide (Iv.push (w := w) (w3 := w) (V := w) (xs := []) ⟨Below.refl _ _, Below.refl _ _, fun p hp => (by cases hp)⟩ (windowC D) 27)
  go_enter Try.func6, Try.ntmps6
  go_wp2_with fail
  refine (unhide H1 _).mono ?_
  rintro e w1 ⟨rfl, b1⟩
  have I1 := hide ((unhide I0).below b1)
  clear b1 I0
  go_wp2_with fail
  refine (unhide H2 _).mono ?_
  rintro e w2 ⟨rfl, b2⟩
  have I2 := hide ((unhide I1).below b2)
  clear b2 I1
  obtain ⟨V3, hV⟩ : ∃ V, V = w2.alloc (.cells #[.int .i64 E.f0, .int .i64 E.f1, .int .i64 E.f2, .int .i64 E.f3] 23) := ⟨_, rfl⟩
  have I3 := hide (show Iv w w V3 [(w2.heap.size, windowC E), (w.heap.size, windowC D)] by rw [hV]; exact Iv.push (unhide I2) (windowC E) _)
  have HV := hide hV
  clear hV I2
  go_upto_region 2 with fail
  rw [← unhide HV]
  clear HV
  have z := ((unhide I3).bx _ (List.mem_cons_of_mem _ (List.mem_cons_self))).cv
  have zl := ((unhide I3).bx _ (List.mem_cons_of_mem _ (List.mem_cons_self))).lt
  go_wp2_with fail
  refine (unhide H1 _).mono ?_
  rintro e w4 ⟨rfl, b4⟩
  have I4 := hide ((unhide I3).below b4)
  clear b4 I3
  clear z zl
  go_wp2_with fail
  refine (unhide H3 _).mono ?_
  rintro e w5 ⟨rfl, b5⟩
  have I5 := hide ((unhide I4).below b5)
  clear b5 I4
  obtain ⟨V6, hV⟩ : ∃ V, V = w5.alloc (.cells #[.int .i64 E.f0, .int .i64 E.f1, .int .i64 E.f2, .int .i64 E.f3] 23) := ⟨_, rfl⟩
  have I6 := hide (show Iv w w V6 [(w5.heap.size, windowC E), (w2.heap.size, windowC E), (w.heap.size, windowC D)] by rw [hV]; exact Iv.push (unhide I5) (windowC E) _)
  have HV := hide hV
  clear hV I5
  go_upto_region 3 with fail
  rw [← unhide HV]
  clear HV
  have x5 := ((unhide I6).bx _ List.mem_cons_self).cv
  have x5l := ((unhide I6).bx _ List.mem_cons_self).lt
  have y5 := ((unhide I6).bx _ (List.mem_cons_of_mem _ List.mem_cons_self)).cv
  have y5l := ((unhide I6).bx _ (List.mem_cons_of_mem _ List.mem_cons_self)).lt
  go_wp2_with fail
  refine (unhide H4 _).mono ?_
  rintro e w7 ⟨rfl, b7⟩
  have I7 := hide ((unhide I6).below b7)
  clear b7 I6
  clear x5 x5l y5 y5l
  have B9 := hide (unhide I7).b0
  go_wp2
  go_ret
  exact ⟨rfl, unhide B9⟩
end Go.Proofs.Ytcmniehcabnmeaa.Rc
