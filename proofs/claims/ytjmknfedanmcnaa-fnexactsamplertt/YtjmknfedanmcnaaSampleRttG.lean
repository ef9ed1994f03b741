/-
  The law on SampleRtt, walked out of the program's contract.
-/
import Derived.Test.YtjmknfedanmcnaaRts
namespace Go.Proofs.Ytjmknfedanmcnaa.Rc
open Go.ChangeShapes Go.WideShapes Go.ChangeAt Go.RowKit Go.Deep
set_option linter.unusedVariables false
set_option maxRecDepth 100000

set_option maxHeartbeats 2000000 in
theorem sampleRtt_given (D : RttD) (la de : Int) (w : World)
    (HI : ∀ W, Calls Try.prog 22 #[rttV D, .int .i64 la, .int .i64 de] W fun e w' => e = .returned (.tuple #[rttV (srD D la de (srB D la de)), .bool (srB D la de)]) ∧ Below W.heap.size W w') :
    Calls Try.prog 6 #[rttV D, .int .i64 la, .int .i64 de] w fun e w' => e = .returned (.bool true) ∧ Below w.heap.size w w' := by
  have H1 := hide (toRtt_any D)
  have H2 := hide (specSR D la de)
  have H3 := hide HI
  have H4 := hide (eqRtt_same (srD D la de (srB D la de)))
  clear HI
  generalize srD D la de (srB D la de) = E at *
  generalize srB D la de = r at *
  have I0 := hide (Iv.push (w := w) (w3 := w) (V := w) (xs := []) ⟨Below.refl _ _, Below.refl _ _, fun p hp => (by cases hp)⟩ (rttC D) 36)
  go_enter Try.func6, Try.ntmps6
  go_wp2_with fail
  refine (unhide H1 _).mono ?_
  rintro e w1 ⟨rfl, b1⟩
  have J1 := hide ((unhide I0).below b1)
  clear b1 I0
  go_wp2_with fail
  refine (unhide H2 _).mono ?_
  rintro e w2 ⟨rfl, b2⟩
  have J2 := hide ((unhide J1).below b2)
  clear b2 J1
  obtain ⟨V2, hV2⟩ : ∃ V, V = w2.alloc (.cells #[.bool E.kn, .int .i64 E.la, .int .i64 E.mi, .int .i64 E.sm, .int .i64 E.va] 37) := ⟨_, rfl⟩
  have J3 := hide (show Iv w w V2 [(w2.heap.size, rttC E), (w.heap.size, rttC D)] by rw [hV2]; exact Iv.push (unhide J2) (rttC E) _)
  have x2 := ((unhide J2).bx _ (List.mem_cons_self)).cv
  have k2 := ((unhide J2).bx _ (List.mem_cons_self)).lt
  have HV2 := hide hV2
  clear hV2 J2
  go_wp2_with fail
  rw [← unhide HV2]
  clear HV2 x2 k2
  refine (unhide H1 _).mono ?_
  rintro e w3 ⟨rfl, b3⟩
  have J4 := hide ((unhide J3).below b3)
  clear b3 J3
  go_wp2_with fail
  refine (unhide H3 _).mono ?_
  rintro e w4 ⟨rfl, b4⟩
  have J5 := hide ((unhide J4).below b4)
  clear b4 J4
  obtain ⟨V4, hV4⟩ : ∃ V, V = w4.alloc (.cells #[.bool E.kn, .int .i64 E.la, .int .i64 E.mi, .int .i64 E.sm, .int .i64 E.va] 37) := ⟨_, rfl⟩
  have J6 := hide (show Iv w w V4 [(w4.heap.size, rttC E), (w2.heap.size, rttC E), (w.heap.size, rttC D)] by rw [hV4]; exact Iv.push (unhide J5) (rttC E) _)
  have x4 := ((unhide J5).bx _ (List.mem_cons_self)).cv
  have k4 := ((unhide J5).bx _ (List.mem_cons_self)).lt
  have HV4 := hide hV4
  clear hV4 J5
  go_upto_region 3 with fail
  rw [← unhide HV4]
  clear HV4 x4 k4
  have x5 := ((unhide J6).bx _ (List.mem_cons_self)).cv
  have y5 := ((unhide J6).bx _ (List.mem_cons_of_mem _ (List.mem_cons_self))).cv
  go_wp2_with fail
  refine (unhide H4 _).mono ?_
  rintro e w6 ⟨rfl, b6⟩
  have B6 := hide ((unhide J6).b0.trans (b6.mono (unhide J6).b0.size))
  clear b6
  go_wp2
  go_ret
  exact ⟨rfl, unhide B6⟩
end Go.Proofs.Ytjmknfedanmcnaa.Rc
