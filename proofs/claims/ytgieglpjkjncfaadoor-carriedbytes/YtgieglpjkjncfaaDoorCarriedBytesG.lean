/-
  The law on CarriedBytes, walked.
-/
import Derived.Test.YtgieglpjkjncfaaDoorCpo
import Derived.Test.YtgieglpjkjncfaaDoorOpCarried
import Derived.Deep.DeepCutAuto
namespace Go.Proofs.YtgieglpjkjncfaaDoor.Rc
open Go.ChangeShapes Go.WideShapes Go.ChangeAt Go.RowKit Go.Deep
set_option linter.unusedVariables false
set_option maxRecDepth 100000

set_option maxHeartbeats 4000000 in
theorem carriedBytes_walk (D : CarriedD) (hs : D.f2.size ≤ maxLen) (w : World) (hz : Tz w) :
    Calls Tryd.prog 4 #[carriedV D] w fun e w' => e = .returned (.bool true) ∧ Below w.heap.size w w' := by
  have H1 := hide (fun W => szCarried_any D W hs)
  have H2 := hide (toCarried_any D)
  have H3 := hide (fun h W => specCY D h W)
  have H4 := hide (fun h W (b : Below w.heap.size w W) => implCY D h W (hz.kept b (tz_low hz)))
  generalize gdK D = r at *
  generalize cyR D = t at *
  obtain ⟨V0, hV0⟩ : ∃ V, V = w.alloc (.cells #[.int .i64 D.f0, .int .i64 D.f1, .string D.f2] 31) := ⟨_, rfl⟩
  have I0 := hide (show Iv w w V0 [(w.heap.size, carriedC D)] by rw [hV0]; exact Iv.push (w := w) (w3 := w) (V := w) (xs := []) ⟨Below.refl _ _, Below.refl _ _, fun p hp => (by cases hp)⟩ (carriedC D) 31)
  have HV := hide hV0
  clear hV0 hs hz
  go_enter Tryd.func4, Tryd.ntmps4
  go_upto_region 1 with fail
  rw [← unhide HV]
  clear HV
  have x0 := ((unhide I0).bx _ List.mem_cons_self).cv
  have x0l := ((unhide I0).bx _ List.mem_cons_self).lt
  go_wp2_with fail
  refine (unhide H1 _).mono ?_
  rintro e w1 ⟨hq, b1⟩
  have I1 := hide ((unhide I0).below b1)
  clear b1 I0 x0 x0l
  rcases hq with ⟨hz, rfl⟩ | ⟨_, rfl⟩
  · have n0 : ¬ ((1048576 - D.f2.size : Nat) : Int) < 0 := by omega
    have H3 := hide (unhide H3 hz)
    have H4 := hide (unhide H4 hz)
    generalize 1048576 - D.f2.size = left at *
    clear hz
    have x1 := ((unhide I1).bx _ List.mem_cons_self).cv
    have x1l := ((unhide I1).bx _ List.mem_cons_self).lt
    go_wp2_with fail
    refine (unhide H2 _).mono ?_
    rintro e w2 ⟨rfl, b2⟩
    have I2 := hide ((unhide I1).below b2)
    clear b2 I1 x1 x1l
    go_wp2_with fail
    refine (unhide H3 _).mono ?_
    rintro e w3 ⟨rfl, b3⟩
    have I3 := hide ((unhide I2).below b3)
    clear b3 I2
    have x3 := ((unhide I3).bx _ List.mem_cons_self).cv
    have x3l := ((unhide I3).bx _ List.mem_cons_self).lt
    go_wp2_with fail
    refine (unhide H2 _).mono ?_
    rintro e w4 ⟨rfl, b4⟩
    have I4 := hide ((unhide I3).below b4)
    clear b4 I3 x3 x3l
    go_wp2_with fail
    refine (unhide H4 _ (unhide I4).b0).mono ?_
    rintro e w5 ⟨rfl, b5⟩
    have B5 := hide ((unhide I4).below b5).b0
    clear b5 I4
    go_wp2
    go_ret
    exact ⟨rfl, unhide B5⟩
  · have B1 := hide (unhide I1).b0
    go_wp2
    go_ret
    exact ⟨rfl, unhide B1⟩
end Go.Proofs.YtgieglpjkjncfaaDoor.Rc
