/-
  The law on NewInflow, walked.
-/
import Derived.Test.YtpdjcgakjdchjaaSnf
import Derived.Test.YtpdjcgakjdchjaaInf
import Derived.Deep.DeepCutAuto
namespace Go.Proofs.Ytpdjcgakjdchjaa.Rc
open Go.ChangeShapes Go.WideShapes Go.ChangeAt Go.RowKit Go.Deep
set_option linter.unusedVariables false
set_option maxRecDepth 100000

theorem niE (n : Int) : ∃ a b c : Int, inflowV (niD n (niB n)) none 0 = .agg #[.int .i64 a, .int .i64 b, .int .i64 c, .slice none 0 0] ∧ niD n (niB n) = ⟨a, b, c, []⟩ := by
  cases h : niB n with
  | false => exact ⟨0, 0, 0, rfl, rfl⟩
  | true => exact ⟨n, 0, -1, rfl, rfl⟩
set_option maxHeartbeats 4000000 in
theorem newInflow_walk (n : Int) (w : World) :
    Calls Try.prog 3 #[.int .i64 n] w fun e w' => e = .returned (.bool true) ∧ Below w.heap.size w w' := by
  obtain ⟨a, b, c, e1, e2⟩ := niE n
  have H2 := hide (specNI n)
  have H3 := hide (implNI n)
  have H4 := hide (fun W => eqInflow_same ⟨a, b, c, []⟩ none none 0 0 W (Nat.zero_le _) (Or.inl rfl) (Or.inl rfl))
  have H5 := hide (fun W => markInflow_any 0 0 ⟨a, b, c, []⟩ none 0 1 W (Nat.zero_le _) (by decide) (by decide) (Or.inl rfl))
  have H6 := hide (fun W => heldInflow_any 0 0 ⟨a, b, c, []⟩ none 0 1 W (Nat.zero_le _) (by decide) (by decide) (Or.inl rfl))
  rw [e1] at H2 H3
  clear e1 e2
  generalize niB n = r at *
  have I0 := hide (show Iv w w w [] from ⟨Below.refl _ _, Below.refl _ _, fun p hp => (by cases hp)⟩)
  go_enter Try.func3, Try.ntmps3
  go_wp2_with fail
  refine (unhide H2 _).mono ?_
  rintro e w1 ⟨rfl, b1⟩
  have I1 := hide ((unhide I0).below b1)
  clear b1 I0
  obtain ⟨V2, hV⟩ : ∃ V, V = w1.alloc (.cells #[.int .i64 a, .int .i64 b, .int .i64 c, .slice none 0 0] 24) := ⟨_, rfl⟩
  have I2 := hide (show Iv w w V2 [(w1.heap.size, inflowC ⟨a, b, c, []⟩ none 0)] by rw [hV]; exact Iv.push (unhide I1) (inflowC ⟨a, b, c, []⟩ none 0) _)
  have HV := hide hV
  clear hV I1
  go_upto_region 2 with fail
  rw [← unhide HV]
  clear HV
  go_wp2_with fail
  refine (unhide H3 _).mono ?_
  rintro e w3 ⟨rfl, b3⟩
  have I3 := hide ((unhide I2).below b3)
  clear b3 I2
  obtain ⟨V4, hV⟩ : ∃ V, V = w3.alloc (.cells #[.int .i64 a, .int .i64 b, .int .i64 c, .slice none 0 0] 24) := ⟨_, rfl⟩
  have I4 := hide (show Iv w w V4 [(w3.heap.size, inflowC ⟨a, b, c, []⟩ none 0), (w1.heap.size, inflowC ⟨a, b, c, []⟩ none 0)] by rw [hV]; exact Iv.push (unhide I3) (inflowC ⟨a, b, c, []⟩ none 0) _)
  have HV := hide hV
  clear hV I3
  go_upto_region 3 with fail
  rw [← unhide HV]
  clear HV
  have x5 := ((unhide I4).bx _ List.mem_cons_self).cv
  have x5l := ((unhide I4).bx _ List.mem_cons_self).lt
  have y5 := ((unhide I4).bx _ (List.mem_cons_of_mem _ List.mem_cons_self)).cv
  have y5l := ((unhide I4).bx _ (List.mem_cons_of_mem _ List.mem_cons_self)).lt
  go_wp2_with fail
  refine (unhide H4 _).mono ?_
  rintro e w5 ⟨rfl, b5⟩
  have I5 := hide ((unhide I4).below b5)
  clear b5 I4
  clear x5 x5l y5 y5l
  have x6 := ((unhide I5).bx _ List.mem_cons_self).cv
  have x6l := ((unhide I5).bx _ List.mem_cons_self).lt
  go_wp2_with fail
  refine (unhide H5 _).mono ?_
  rintro e w6 ⟨rfl, m6, q6⟩
  have b6 : Below w5.heap.size w5 w6 := q6.below (Nat.le_refl _) (fun q hq => absurd (Nat.lt_of_le_of_lt hq.1 hq.2) (Nat.lt_irrefl _))
  have I6 := hide ((unhide I5).below b6)
  clear b6 I5 m6 q6 x6 x6l
  have x7 := ((unhide I6).bx _ List.mem_cons_self).cv
  have x7l := ((unhide I6).bx _ List.mem_cons_self).lt
  go_wp2_with fail
  refine (unhide H6 _).mono ?_
  rintro e w7 ⟨rfl, b7⟩
  have I7 := hide ((unhide I6).below b7)
  clear b7 I6 x7 x7l
  go_wp2_with fail
  refine (unhide H3 _).mono ?_
  rintro e w8 ⟨rfl, b8⟩
  have I8 := hide ((unhide I7).below b8)
  clear b8 I7
  obtain ⟨V9, hV⟩ : ∃ V, V = w8.alloc (.cells #[.int .i64 a, .int .i64 b, .int .i64 c, .slice none 0 0] 24) := ⟨_, rfl⟩
  have I9 := hide (show Iv w w V9 [(w8.heap.size, inflowC ⟨a, b, c, []⟩ none 0), (w3.heap.size, inflowC ⟨a, b, c, []⟩ none 0), (w1.heap.size, inflowC ⟨a, b, c, []⟩ none 0)] by rw [hV]; exact Iv.push (unhide I8) (inflowC ⟨a, b, c, []⟩ none 0) _)
  have HV := hide hV
  clear hV I8
  go_upto_region 14 with fail
  rw [← unhide HV]
  clear HV
  have x10 := ((unhide I9).bx _ List.mem_cons_self).cv
  have x10l := ((unhide I9).bx _ List.mem_cons_self).lt
  have y10 := ((unhide I9).bx _ (List.mem_cons_of_mem _ (List.mem_cons_of_mem _ List.mem_cons_self))).cv
  have y10l := ((unhide I9).bx _ (List.mem_cons_of_mem _ (List.mem_cons_of_mem _ List.mem_cons_self))).lt
  go_wp2_with fail
  refine (unhide H4 _).mono ?_
  rintro e w10 ⟨rfl, b10⟩
  have I10 := hide ((unhide I9).below b10)
  clear b10 I9 x10 x10l y10 y10l
  have x11 := ((unhide I10).bx _ (List.mem_cons_of_mem _ List.mem_cons_self)).cv
  have x11l := ((unhide I10).bx _ (List.mem_cons_of_mem _ List.mem_cons_self)).lt
  go_wp2_with fail
  refine (unhide H6 _).mono ?_
  rintro e w11 ⟨rfl, b11⟩
  have I11 := hide ((unhide I10).below b11)
  clear b11 I10 x11 x11l
  have B12 := hide (unhide I11).b0
  go_wp2
  go_ret
  exact ⟨rfl, unhide B12⟩
end Go.Proofs.Ytpdjcgakjdchjaa.Rc
