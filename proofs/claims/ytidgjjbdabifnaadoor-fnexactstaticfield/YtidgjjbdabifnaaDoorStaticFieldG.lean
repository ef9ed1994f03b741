/-
  The law on StaticField, walked out of the contracts of both sides.
-/
import Derived.Test.YtidgjjbdabifnaaDoorFst
import Derived.Deep.DeepCutAuto
namespace Go.Proofs.YtidgjjbdabifnaaDoor.Rc
open Go.ChangeShapes Go.WideShapes Go.ChangeAt Go.RowKit Go.Deep
set_option linter.unusedVariables false
set_option maxRecDepth 100000

set_option maxHeartbeats 2000000 in
theorem staticField_given (n0 : Int) (E : FieldD) (r : Bool) (w : World) (HS : ∀ W, Calls Tryd.prog 6 #[.int .i64 n0] W fun e w' => e = .returned (.tuple #[fieldV E, .bool r]) ∧ Below W.heap.size W w') (HI : ∀ W, Below w.heap.size w W → Calls Tryd.prog 7 #[.int .i64 n0] W fun e w' => e = .returned (.tuple #[fieldV E, .bool r]) ∧ Below W.heap.size W w') :
    Calls Tryd.prog 3 #[.int .i64 n0] w fun e w' => e = .returned (.bool true) ∧ Below w.heap.size w w' := by
  have H2 := hide HS
  have H3 := hide HI
  have H4 := hide (eqField_same E)
  clear HS HI
  have I0 := hide (show Iv w w w [] from ⟨Below.refl _ _, Below.refl _ _, fun p hp => (by cases hp)⟩)
  go_enter Tryd.func3, Tryd.ntmps3
  go_wp2_with fail
  refine (unhide H2 _).mono ?_
  rintro e w1 ⟨rfl, b1⟩
  have I1 := hide ((unhide I0).below b1)
  clear b1 I0
  obtain ⟨V2, hV⟩ : ∃ V, V = w1.alloc (.cells #[.string E.f0, .string E.f1] 23) := ⟨_, rfl⟩
  have I2 := hide (show Iv w w V2 [(w1.heap.size, fieldC E)] by rw [hV]; exact Iv.push (unhide I1) (fieldC E) _)
  have HV := hide hV
  clear hV I1
  go_upto_region 2 with fail
  rw [← unhide HV]
  clear HV
  go_wp2_with fail
  refine (unhide H3 _ (unhide I2).b0).mono ?_
  rintro e w3 ⟨rfl, b3⟩
  have I3 := hide ((unhide I2).below b3)
  clear b3 I2
  obtain ⟨V4, hV⟩ : ∃ V, V = w3.alloc (.cells #[.string E.f0, .string E.f1] 23) := ⟨_, rfl⟩
  have I4 := hide (show Iv w w V4 [(w3.heap.size, fieldC E), (w1.heap.size, fieldC E)] by rw [hV]; exact Iv.push (unhide I3) (fieldC E) _)
  have HV := hide hV
  clear hV I3
  go_upto_region 3 with fail
  rw [← unhide HV]
  clear HV
  have x5 := ((unhide I4).bx _ List.mem_cons_self).cv
  have x5l := ((unhide I4).bx _ List.mem_cons_self).lt
  have y5 := ((unhide I4).bx _ (List.mem_cons_of_mem _ List.mem_cons_self)).cv
  have y5l := ((unhide I4).bx _ (List.mem_cons_of_mem _ List.mem_cons_self)).lt
  go_wp2_with fail
  refine (unhide H4 _).mono ?_
  rintro e w5 ⟨rfl, b5⟩
  have I5 := hide ((unhide I4).below b5)
  clear b5 I4
  clear x5 x5l y5 y5l
  have B9 := hide (unhide I5).b0
  go_wp2
  go_ret
  exact ⟨rfl, unhide B9⟩
end Go.Proofs.YtidgjjbdabifnaaDoor.Rc
