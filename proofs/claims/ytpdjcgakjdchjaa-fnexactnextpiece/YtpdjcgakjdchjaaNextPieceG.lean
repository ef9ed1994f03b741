/-
  The law on NextPiece, walked out of the contracts of both sides.
-/
import Derived.Test.YtpdjcgakjdchjaaFrz
import Derived.Test.YtpdjcgakjdchjaaOpOutflow
import Derived.Deep.DeepCutAuto
namespace Go.Proofs.Ytpdjcgakjdchjaa.Rc
open Go.ChangeShapes Go.WideShapes Go.ChangeAt Go.RowKit Go.Deep
set_option linter.unusedVariables false
set_option maxRecDepth 100000

set_option maxHeartbeats 8000000 in
theorem nextPiece_given (D : OutflowD) (m : Int) (hs : D.f2.size ≤ maxLen) (E : OutflowD) (k b : Int) (fin : Bool) (s : ByteArray) (r : Bool) (w : World)
    (HS : D.f2.size ≤ 1048576 → ∀ W, Calls Try.prog 18 #[outflowV D, .int .i64 m] W fun e w' => e = .returned (.tuple #[outflowV E, frV k b fin s, .bool r]) ∧ Below W.heap.size W w')
    (HI : D.f2.size ≤ 1048576 → ∀ W, Calls Try.prog 19 #[outflowV D, .int .i64 m] W fun e w' => e = .returned (.tuple #[outflowV E, frV k b fin s, .bool r]) ∧ Below W.heap.size W w') :
    Calls Try.prog 5 #[outflowV D, .int .i64 m] w fun e w' => e = .returned (.bool true) ∧ Below w.heap.size w w' := by
  have H1 := hide (fun W => szOutflow_any D W hs)
  have H2 := hide (toOutflow_any D)
  have H3 := hide HS
  have H4 := hide HI
  have H5 := hide (eqOutflow_same E)
  have H6 := hide (eqFrame0 k b fin s)
  have H7 := hide (markFrame0 1 k b fin s)
  have H8 := hide (heldFrame0 1 (by decide) k b fin s)
  obtain ⟨V0, hV0⟩ : ∃ V, V = w.alloc (.cells #[.int .i64 D.f0, .int .i64 D.f1, .string D.f2, .bool D.f3] 31) := ⟨_, rfl⟩
  have I0 := hide (show Iv w w V0 [(w.heap.size, outflowC D)] by rw [hV0]; exact Iv.push (w := w) (w3 := w) (V := w) (xs := []) ⟨Below.refl _ _, Below.refl _ _, fun p hp => (by cases hp)⟩ (outflowC D) 31)
  have HV := hide hV0
  clear hV0 hs HS HI
  go_enter Try.func5, Try.ntmps5
  go_upto_region 1 with fail
  rw [← unhide HV]
  clear HV
  have x0 := ((unhide I0).bx _ List.mem_cons_self).cv
  have x0l := ((unhide I0).bx _ List.mem_cons_self).lt
  go_wp2_with fail
  refine (unhide H1 _).mono ?_
  rintro e w1 ⟨hq, b1⟩
  have I1 := hide ((unhide I0).below b1)
  clear b1 I0 x0 x0l
  rcases hq with ⟨hz, rfl⟩ | ⟨_, rfl⟩
  case inr =>
    have B1 := hide (unhide I1).b0
    go_wp2
    go_ret
    exact ⟨rfl, unhide B1⟩
  have n0 : ¬ ((1048576 - D.f2.size : Nat) : Int) < 0 := by omega
  have H3 := hide (unhide H3 hz)
  have H4 := hide (unhide H4 hz)
  generalize 1048576 - D.f2.size = left at *
  clear hz
  have z0 := ((unhide I1).bx _ (List.mem_cons_self)).cv
  have z0l := ((unhide I1).bx _ (List.mem_cons_self)).lt
  go_wp2_with fail
  refine (unhide H2 _).mono ?_
  rintro e w2 ⟨rfl, b2⟩
  have I2 := hide ((unhide I1).below b2)
  clear b2 I1 z0 z0l
  go_wp2_with fail
  refine (unhide H3 _).mono ?_
  rintro e w3 ⟨rfl, b3⟩
  have I3 := hide ((unhide I2).below b3)
  clear b3 I2 
  obtain ⟨V4, hV⟩ : ∃ V, V = (w3.alloc (.cells #[.int .i64 E.f0, .int .i64 E.f1, .string E.f2, .bool E.f3] 34)).alloc (.cells #[.int .i64 k, .int .i64 0, .int .i64 b, .int .i64 0, .bool fin, .string s, .slice none 0 0] 39) := ⟨_, rfl⟩
  have I4 := hide (show Iv w w V4 [(w3.heap.size + 1, frC k b fin s), (w3.heap.size, outflowC E), (w.heap.size, outflowC D)] by
    rw [hV]
    have h1 := Iv.push (unhide I3) (outflowC E) 34
    have h2 := Iv.push h1 (frC k b fin s) 39
    rw [show (w3.alloc (.cells (outflowC E).toArray 34)).heap.size = w3.heap.size + 1 by simp] at h2
    exact h2)
  have HV := hide hV
  clear hV I3
  go_upto_region 6 with fail
  rw [← unhide HV]
  clear HV
  have z0 := ((unhide I4).bx _ (List.mem_cons_of_mem _ (List.mem_cons_of_mem _ (List.mem_cons_self)))).cv
  have z0l := ((unhide I4).bx _ (List.mem_cons_of_mem _ (List.mem_cons_of_mem _ (List.mem_cons_self)))).lt
  go_wp2_with fail
  refine (unhide H2 _).mono ?_
  rintro e w5 ⟨rfl, b5⟩
  have I5 := hide ((unhide I4).below b5)
  clear b5 I4 z0 z0l
  go_wp2_with fail
  refine (unhide H4 _).mono ?_
  rintro e w6 ⟨rfl, b6⟩
  have I6 := hide ((unhide I5).below b6)
  clear b6 I5 
  obtain ⟨V7, hV⟩ : ∃ V, V = (w6.alloc (.cells #[.int .i64 E.f0, .int .i64 E.f1, .string E.f2, .bool E.f3] 34)).alloc (.cells #[.int .i64 k, .int .i64 0, .int .i64 b, .int .i64 0, .bool fin, .string s, .slice none 0 0] 39) := ⟨_, rfl⟩
  have I7 := hide (show Iv w w V7 [(w6.heap.size + 1, frC k b fin s), (w6.heap.size, outflowC E), (w3.heap.size + 1, frC k b fin s), (w3.heap.size, outflowC E), (w.heap.size, outflowC D)] by
    rw [hV]
    have h1 := Iv.push (unhide I6) (outflowC E) 34
    have h2 := Iv.push h1 (frC k b fin s) 39
    rw [show (w6.alloc (.cells (outflowC E).toArray 34)).heap.size = w6.heap.size + 1 by simp] at h2
    exact h2)
  have HV := hide hV
  clear hV I6
  go_upto_region 7 with fail
  rw [← unhide HV]
  clear HV
  have z0 := ((unhide I7).bx _ (List.mem_cons_of_mem _ (List.mem_cons_self))).cv
  have z0l := ((unhide I7).bx _ (List.mem_cons_of_mem _ (List.mem_cons_self))).lt
  have z1 := ((unhide I7).bx _ (List.mem_cons_of_mem _ (List.mem_cons_of_mem _ (List.mem_cons_of_mem _ (List.mem_cons_self))))).cv
  have z1l := ((unhide I7).bx _ (List.mem_cons_of_mem _ (List.mem_cons_of_mem _ (List.mem_cons_of_mem _ (List.mem_cons_self))))).lt
  go_wp2_with fail
  refine (unhide H5 _).mono ?_
  rintro e w8 ⟨rfl, b8⟩
  have I8 := hide ((unhide I7).below b8)
  clear b8 I7 z0 z0l z1 z1l
  have z0 := ((unhide I8).bx _ (List.mem_cons_self)).cv
  have z0l := ((unhide I8).bx _ (List.mem_cons_self)).lt
  have z1 := ((unhide I8).bx _ (List.mem_cons_of_mem _ (List.mem_cons_of_mem _ (List.mem_cons_self)))).cv
  have z1l := ((unhide I8).bx _ (List.mem_cons_of_mem _ (List.mem_cons_of_mem _ (List.mem_cons_self)))).lt
  go_wp2_with fail
  refine (unhide H6 _).mono ?_
  rintro e w9 ⟨rfl, b9⟩
  have I9 := hide ((unhide I8).below b9)
  clear b9 I8 z0 z0l z1 z1l
  have z0 := ((unhide I9).bx _ (List.mem_cons_self)).cv
  have z0l := ((unhide I9).bx _ (List.mem_cons_self)).lt
  go_wp2_with fail
  refine (unhide H7 _).mono ?_
  rintro e w10 ⟨rfl, b10⟩
  have I10 := hide ((unhide I9).below b10)
  clear b10 I9 z0 z0l
  have z0 := ((unhide I10).bx _ (List.mem_cons_self)).cv
  have z0l := ((unhide I10).bx _ (List.mem_cons_self)).lt
  go_wp2_with fail
  refine (unhide H8 _).mono ?_
  rintro e w11 ⟨rfl, b11⟩
  have I11 := hide ((unhide I10).below b11)
  clear b11 I10 z0 z0l
  have z0 := ((unhide I11).bx _ (List.mem_cons_of_mem _ (List.mem_cons_of_mem _ (List.mem_cons_of_mem _ (List.mem_cons_of_mem _ (List.mem_cons_self)))))).cv
  have z0l := ((unhide I11).bx _ (List.mem_cons_of_mem _ (List.mem_cons_of_mem _ (List.mem_cons_of_mem _ (List.mem_cons_of_mem _ (List.mem_cons_self)))))).lt
  go_wp2_with fail
  refine (unhide H2 _).mono ?_
  rintro e w12 ⟨rfl, b12⟩
  have I12 := hide ((unhide I11).below b12)
  clear b12 I11 z0 z0l
  go_wp2_with fail
  refine (unhide H4 _).mono ?_
  rintro e w13 ⟨rfl, b13⟩
  have I13 := hide ((unhide I12).below b13)
  clear b13 I12 
  obtain ⟨V14, hV⟩ : ∃ V, V = (w13.alloc (.cells #[.int .i64 E.f0, .int .i64 E.f1, .string E.f2, .bool E.f3] 34)).alloc (.cells #[.int .i64 k, .int .i64 0, .int .i64 b, .int .i64 0, .bool fin, .string s, .slice none 0 0] 39) := ⟨_, rfl⟩
  have I14 := hide (show Iv w w V14 [(w13.heap.size + 1, frC k b fin s), (w13.heap.size, outflowC E), (w6.heap.size + 1, frC k b fin s), (w6.heap.size, outflowC E), (w3.heap.size + 1, frC k b fin s), (w3.heap.size, outflowC E), (w.heap.size, outflowC D)] by
    rw [hV]
    have h1 := Iv.push (unhide I13) (outflowC E) 34
    have h2 := Iv.push h1 (frC k b fin s) 39
    rw [show (w13.alloc (.cells (outflowC E).toArray 34)).heap.size = w13.heap.size + 1 by simp] at h2
    exact h2)
  have HV := hide hV
  clear hV I13
  go_upto_region 18 with fail
  rw [← unhide HV]
  clear HV
  have z0 := ((unhide I14).bx _ (List.mem_cons_of_mem _ (List.mem_cons_self))).cv
  have z0l := ((unhide I14).bx _ (List.mem_cons_of_mem _ (List.mem_cons_self))).lt
  have z1 := ((unhide I14).bx _ (List.mem_cons_of_mem _ (List.mem_cons_of_mem _ (List.mem_cons_of_mem _ (List.mem_cons_of_mem _ (List.mem_cons_of_mem _ (List.mem_cons_self))))))).cv
  have z1l := ((unhide I14).bx _ (List.mem_cons_of_mem _ (List.mem_cons_of_mem _ (List.mem_cons_of_mem _ (List.mem_cons_of_mem _ (List.mem_cons_of_mem _ (List.mem_cons_self))))))).lt
  go_wp2_with fail
  refine (unhide H5 _).mono ?_
  rintro e w15 ⟨rfl, b15⟩
  have I15 := hide ((unhide I14).below b15)
  clear b15 I14 z0 z0l z1 z1l
  have z0 := ((unhide I15).bx _ (List.mem_cons_self)).cv
  have z0l := ((unhide I15).bx _ (List.mem_cons_self)).lt
  have z1 := ((unhide I15).bx _ (List.mem_cons_of_mem _ (List.mem_cons_of_mem _ (List.mem_cons_of_mem _ (List.mem_cons_of_mem _ (List.mem_cons_self)))))).cv
  have z1l := ((unhide I15).bx _ (List.mem_cons_of_mem _ (List.mem_cons_of_mem _ (List.mem_cons_of_mem _ (List.mem_cons_of_mem _ (List.mem_cons_self)))))).lt
  go_wp2_with fail
  refine (unhide H6 _).mono ?_
  rintro e w16 ⟨rfl, b16⟩
  have I16 := hide ((unhide I15).below b16)
  clear b16 I15 z0 z0l z1 z1l
  have z0 := ((unhide I16).bx _ (List.mem_cons_of_mem _ (List.mem_cons_of_mem _ (List.mem_cons_self)))).cv
  have z0l := ((unhide I16).bx _ (List.mem_cons_of_mem _ (List.mem_cons_of_mem _ (List.mem_cons_self)))).lt
  go_wp2_with fail
  refine (unhide H8 _).mono ?_
  rintro e w17 ⟨rfl, b17⟩
  have I17 := hide ((unhide I16).below b17)
  clear b17 I16 z0 z0l
  have B9 := hide (unhide I17).b0
  go_wp2
  go_ret
  exact ⟨rfl, unhide B9⟩
end Go.Proofs.Ytpdjcgakjdchjaa.Rc
