/-
  The law on DrainBackend, walked.
-/
import Derived.Test.YtldjenhknejpnaaDrs
import Derived.Test.YtldjenhknejpnaaBmk
namespace Go.Proofs.Ytldjenhknejpnaa.fnExactDrainBackend
open Go.ChangeShapes Go.WideShapes Go.ChangeAt Go.RowKit Go.Deep
set_option linter.unusedVariables false
set_option maxRecDepth 100000

/-- what comes of a balancer is as small -/
theorem dr_sm (D : BlD) (x : ByteArray) (hs : smB D) : smM (drD D x (drB D x)) := by
  cases drB D x with
  | false =>
    refine ⟨⟨Nat.zero_le _, fun i hi => absurd hi (Nat.not_lt_zero _), fun i hi => ?_⟩, Nat.zero_le _, Nat.zero_le _⟩
    obtain rfl : i = 0 := Nat.le_zero.1 hi
    show 1 ≤ _
    omega
  | true =>
    refine ⟨hs.t, ?_, hs.k⟩
    show (dbM D.L x).length ≤ _
    have := hs.l
    unfold dbM
    split
    · unfold drL
      rw [List.length_append, List.length_take, List.length_drop]
      omega
    · exact Nat.zero_le _
set_option maxHeartbeats 8000000 in
theorem walk (D : BlD) (ta la ka : Option Addr) (tc lc kc : Nat) (x : ByteArray) (hx : x.size ≤ maxLen) (w : World) (ho : okBl D) (h : Bl w ta la ka D) :
    Calls Try.prog 4 #[blV D ta tc la lc ka kc, .string x] w fun e w' => e = .returned (.bool true) ∧ Below w.heap.size w w' := by
  unfold maxLen at hx
  by_cases hl : (1048576 : Int) < x.size
  · clear h ho
    go_enter Try.func4, Try.ntmps4
    go_wp2
    go_ret
    exact ⟨rfl, (Below.refl _ _).alloc (Nat.le_refl _) _⟩
  have HZ := hide (fun W (b : Below w.heap.size w W) => szBl D ta la ka tc lc kc W ho (h.below b))
  have H1 := hide (fun (hs : smB D) W (b : Below w.heap.size w W) => toBl D ta la ka tc lc kc W hs (h.below b))
  have I0 := hide (Iv.push (w := w) (w3 := w) (V := w) (xs := []) ⟨Below.refl _ _, Below.refl _ _, fun p hp => (by cases hp)⟩ (blC D ta tc la lc ka kc) 27)
  clear h ho
  go_enter Try.func4, Try.ntmps4
  go_wp2_with fail
  refine (unhide HZ _ ((Below.refl _ _).alloc (Nat.le_refl _) _)).mono ?_
  rintro e w1 ⟨he, b1⟩
  have J1 := hide ((unhide I0).below b1)
  clear b1 HZ I0
  rcases he with rfl | ⟨⟨r1, rfl⟩, hs⟩
  · go_wp2
    go_ret
    exact ⟨rfl, (unhide J1).b0⟩
  have hr : ¬ (r1 : Int) < 0 := by omega
  have x1 := ((unhide J1).bx _ (List.mem_cons_self)).cv
  have hE := dr_sm D x hs
  have H2 := hide (fun ta' la' ka' tc' kc' W (hB : Bl W ta' la' ka' D) => specDr D ta' la' ka' tc' D.L.length kc' x W hs (Nat.le_refl _) (by have := hs.l; omega) hB)
  have H3 := hide (fun ta' la' ka' tc' lc' kc' W (hB : Bl W ta' la' ka' D) => implDr D ta' la' ka' tc' lc' kc' x W hs hB)
  unfold DrS at H2
  unfold DrP at H3
  generalize drD D x (drB D x) = E at *
  generalize drB D x = r at *
  have H4 := hide (fun ta la ka tc lc kc ta' la' ka' tc' lc' kc' W (h : Bl W ta la ka D) (h' : Bl W ta' la' ka' D) => eqBl D ta la ka tc lc kc ta' la' ka' tc' lc' kc' W hs.t hs.l hs.k h h')
  have H5 := hide (fun ta la ka tc lc kc ta' la' ka' tc' lc' kc' W (h : Bl W ta la ka E) (h' : Bl W ta' la' ka' E) => eqBl E ta la ka tc lc kc ta' la' ka' tc' lc' kc' W hE.t hE.l hE.k h h')
  have HS := hide hs
  have HE := hide hE
  clear hs hE
  go_wp2_with fail
  refine (unhide H1 (unhide HS) _ (unhide J1).b0).mono ?_
  rintro e w2 ⟨g2, gl2, gk2, rfl, hB2, b2⟩
  have J2 := hide ((unhide J1).below b2)
  have HB2 := hide (Bg.bl hB2)
  clear x1 b2 hB2 J1
  go_wp2_with fail
  refine (unhide H2 _ _ _ _ _ _ (unhide HB2)).mono ?_
  rintro e w3 ⟨ta0, tc0, la0, lc0, ka0, kc0, rfl, hB0, b3⟩
  have I3 := (unhide J2).below b3
  have J3 : Iv w w3 w3 [(w.heap.size, blC D ta tc la lc ka kc)] := ⟨I3.b0, Below.refl _ _, I3.bx⟩
  have HB0 := hide hB0
  have l3 : w.heap.size < w3.heap.size := (I3.bx _ (List.mem_cons_self)).lt
  obtain ⟨V3, hV3⟩ : ∃ V, V = w3.alloc (.cells #[.slice ta0 E.T.length tc0, .slice la0 E.L.length lc0, .int .i64 E.sh, .bool E.re, .slice ka0 E.K.length kc0, .int .i64 E.lf, .int .i64 E.ve] 34) := ⟨_, rfl⟩
  have J3a := hide (show Iv w w3 V3 [(w3.heap.size, blC E ta0 tc0 la0 lc0 ka0 kc0), (w.heap.size, blC D ta tc la lc ka kc)] by rw [hV3]; exact Iv.push J3 _ _)
  have z3 : V3.heap.size = w3.heap.size + 1 := by rw [hV3]; simp
  have x3 := ((unhide J3a).bx _ (List.mem_cons_of_mem _ (List.mem_cons_self))).cv
  have x3' := (I3.bx _ (List.mem_cons_self)).cv
  have HZ3 := hide z3
  have HV3 := hide hV3
  clear hB0 b3 I3 J3 J2 HB2 hV3 z3 x3
  go_wp2_with fail
  rw [← unhide HV3]
  clear HV3 x3'
  refine (unhide H1 (unhide HS) _ (unhide J3a).b0).mono ?_
  rintro e w4 ⟨g4, gl4, gk4, rfl, hB4, b4⟩
  rw [unhide HZ3] at hB4
  have l4 : w3.heap.size < w4.heap.size := by have := b4.size; rw [unhide HZ3] at this; omega
  obtain ⟨V4, hV4⟩ : ∃ V, V = w4.alloc (.cells #[.slice (some ⟨g4, 0, none⟩) D.T.length D.T.length, .slice (some ⟨gl4, 0, none⟩) D.L.length D.L.length, .int .i64 D.sh, .bool D.re, .slice (some ⟨gk4, 0, none⟩) D.K.length D.K.length, .int .i64 D.lf, .int .i64 D.ve] 34) := ⟨_, rfl⟩
  have AL4 : Below w4.heap.size w4 V4 := by rw [hV4]; exact (Below.refl _ _).alloc (Nat.le_refl _) _
  have J4 := hide (show Iv w w3 V4 [(w4.heap.size, blC D (some ⟨g4, 0, none⟩) D.T.length (some ⟨gl4, 0, none⟩) D.L.length (some ⟨gk4, 0, none⟩) D.K.length), (w3.heap.size, blC E ta0 tc0 la0 lc0 ka0 kc0), (w.heap.size, blC D ta tc la lc ka kc)] by rw [hV4]; exact Iv.push ((unhide J3a).below b4) _ _)
  have HX4 := hide (hB4.below AL4)
  have HZ4 := hide (show V4.heap.size = w4.heap.size + 1 by rw [hV4]; simp)
  have HV4 := hide hV4
  clear hB4 b4 AL4 J3a hV4 HZ3
  go_wp2_with fail
  rw [← unhide HV4]
  clear HV4
  refine (unhide H3 _ _ _ _ _ _ _ (Bg.bl (unhide HX4))).mono ?_
  rintro e w5 ⟨ta1, tc1, la1, lc1, ka1, kc1, rfl, hB5, b5⟩
  rw [unhide HZ4] at hB5
  have l5 : w4.heap.size < w5.heap.size := by have := b5.size; rw [unhide HZ4] at this; omega
  obtain ⟨V5, hV5⟩ : ∃ V, V = w5.alloc (.cells #[.slice ta1 E.T.length tc1, .slice la1 E.L.length lc1, .int .i64 E.sh, .bool E.re, .slice ka1 E.K.length kc1, .int .i64 E.lf, .int .i64 E.ve] 34) := ⟨_, rfl⟩
  have AL5 : Below w5.heap.size w5 V5 := by rw [hV5]; exact (Below.refl _ _).alloc (Nat.le_refl _) _
  have J5 := hide (show Iv w w3 V5 [(w5.heap.size, blC E ta1 tc1 la1 lc1 ka1 kc1), (w4.heap.size, blC D (some ⟨g4, 0, none⟩) D.T.length (some ⟨gl4, 0, none⟩) D.L.length (some ⟨gk4, 0, none⟩) D.K.length), (w3.heap.size, blC E ta0 tc0 la0 lc0 ka0 kc0), (w.heap.size, blC D ta tc la lc ka kc)] by rw [hV5]; exact Iv.push ((unhide J4).below b5) _ _)
  have HG5 := hide (hB5.below AL5)
  have HX5 := hide (((unhide HX4).below b5).below AL5)
  have y5 := (((unhide J4).below b5).bx _ (List.mem_cons_of_mem _ (List.mem_cons_self))).cv
  have k5 := (((unhide J4).below b5).bx _ (List.mem_cons_of_mem _ (List.mem_cons_self))).lt
  have HV5 := hide hV5
  clear hB5 b5 AL5 J4 HX4 hV5 HZ4
  go_upto_region 10 with fail
  rw [← unhide HV5]
  clear HV5 y5 k5
  have x5 := ((unhide J5).bx _ (List.mem_cons_self)).cv
  have y5 := ((unhide J5).bx _ (List.mem_cons_of_mem _ (List.mem_cons_of_mem _ (List.mem_cons_self)))).cv
  go_wp2_with fail
  refine (unhide H5 _ _ _ _ _ _ _ _ _ _ _ _ _ (Bg.bl (unhide HG5)) ((unhide HB0).below (unhide J5).b3)).mono ?_
  rintro e w6 ⟨rfl, b6⟩
  have HG6 := hide ((unhide HG5).below b6)
  have HX6 := hide ((unhide HX5).below b6)
  have J6 := hide ((unhide J5).below b6)
  have x6 := ((unhide J6).bx _ (List.mem_cons_of_mem _ (List.mem_cons_self))).cv
  have y6 := ((unhide J6).bx _ (List.mem_cons_of_mem _ (List.mem_cons_of_mem _ (List.mem_cons_of_mem _ (List.mem_cons_self))))).cv
  clear b6 x5 y5 HG5 HX5 J5
  go_wp2_with fail
  have DR := hide ((unhide J6).below (Below.refl _ _).drew)
  have HXd := hide ((unhide HX6).below (Below.refl _ _).drew)
  have HGd := hide ((unhide HG6).below (Below.refl _ _).drew)
  have xd := ((unhide DR).bx _ (List.mem_cons_of_mem _ (List.mem_cons_self))).cv
  have yd := ((unhide DR).bx _ (List.mem_cons_of_mem _ (List.mem_cons_of_mem _ (List.mem_cons_of_mem _ (List.mem_cons_self))))).cv
  clear HG6 HX6
  go_region_with (first | (go_at_call 8; refine (unhide H1 (unhide HS) _ (unhide DR).b0).mono ?_; rintro e w7 ⟨g7, gl7, gk7, rfl, hB7, b7⟩; have x7 := (((unhide DR).below b7).bx _ (List.mem_cons_of_mem _ (List.mem_cons_self))).cv; have y7 := (((unhide DR).below b7).bx _ (List.mem_cons_of_mem _ (List.mem_cons_of_mem _ (List.mem_cons_of_mem _ (List.mem_cons_self))))).cv) | (go_at_call 10; refine (unhide H4 _ _ _ _ _ _ _ _ _ _ _ _ _ ((Bg.bl (unhide HXd)).below b7) (Bg.bl hB7)).mono ?_; rintro e w8 ⟨rfl, b8⟩))
  all_goals
    have J8 := hide (((unhide DR).below b7).below b8)
    have HX8 := hide (((unhide HXd).below b7).below b8)
    have HG8 := hide (((unhide HGd).below b7).below b8)
    clear hB7 b7 b8 x6 y6 x7 y7 xd yd J6 DR HXd HGd
    have x8 := ((unhide J8).bx _ (List.mem_cons_of_mem _ (List.mem_cons_self))).cv
    have s8 : w5.heap.size < w8.heap.size := ((unhide J8).bx _ (List.mem_cons_self)).lt
    have MX := hide (markBg (w3.heap.size + 1) w4.heap.size D (some ⟨g4, 0, none⟩) (some ⟨gl4, 0, none⟩) (some ⟨gk4, 0, none⟩) D.T.length D.L.length D.K.length w8 (unhide HS).m (by omega) (unhide HX8))
    have hk9 : ¬ (kBl D : Int) < 0 := by omega
    generalize kBl D = kx at *
    go_wp2_with fail
    refine (unhide MX).mono ?_
    rintro e w9 ⟨rfl, hx9, q9⟩
    have J9 := hide ((unhide J8).mark q9 (fun q hq => ⟨by omega, by omega⟩) (fun p hp => by
      simp only [List.mem_cons, List.not_mem_nil, or_false] at hp
      rcases hp with rfl | rfl | rfl | rfl <;> (simp only; omega)))
    have HG9 := hide ((unhide HG8).kq q9 (fun q hq => Or.inl (by omega)))
    have s9 : w8.heap.size ≤ w9.heap.size := q9.size
    clear hx9 q9 x8 MX HX8 HG8 J8
    have x9 := ((unhide J9).bx _ (List.mem_cons_self)).cv
    have y9 := ((unhide J9).bx _ (List.mem_cons_of_mem _ (List.mem_cons_of_mem _ (List.mem_cons_self)))).cv
    go_wp2_with fail
    refine (unhide H5 _ _ _ _ _ _ _ _ _ _ _ _ _ (Bg.bl (unhide HG9)) ((unhide HB0).below (unhide J9).b3)).mono ?_
    rintro e w10 ⟨rfl, b10⟩
    have HG10 := hide ((unhide HG9).below b10)
    have J10 := hide ((unhide J9).below b10)
    have s10 : w9.heap.size ≤ w10.heap.size := b10.size
    clear b10 x9 y9 J9 HG9
    have x10 := ((unhide J10).bx _ (List.mem_cons_self)).cv
    have MG := hide (markBg (w4.heap.size + 1) w5.heap.size E ta1 la1 ka1 tc1 lc1 kc1 w10 (unhide HE) (by omega) (unhide HG10))
    have HH := hide (fun W (hW : Bh (w4.heap.size + 1) w5.heap.size W ta1 la1 ka1 E) => heldBh (w4.heap.size + 1) w5.heap.size E ta1 la1 ka1 tc1 lc1 kc1 W (unhide HE) hW)
    have hk10 : ¬ (kBl E : Int) < 0 := by omega
    generalize kBl E = kg at *
    go_wp2_with fail
    refine (unhide MG).mono ?_
    rintro e w11 ⟨rfl, hg11, q11⟩
    have J11 := hide ((unhide J10).mark q11 (fun q hq => ⟨by omega, by omega⟩) (fun p hp => by
      simp only [List.mem_cons, List.not_mem_nil, or_false] at hp
      rcases hp with rfl | rfl | rfl | rfl <;> (simp only; omega)))
    have HG11 := hide hg11
    clear hg11 q11 x10 MG HG10 J10
    have x11 := ((unhide J11).bx _ (List.mem_cons_self)).cv
    go_wp2_with fail
    refine (unhide HH _ (unhide HG11)).mono ?_
    rintro e w12 ⟨rfl, b12⟩
    have HG12 := hide ((unhide HG11).below b12)
    have J12 := hide ((unhide J11).below b12)
    clear b12 x11 HG11 J11
    have x12 := ((unhide J12).bx _ (List.mem_cons_of_mem _ (List.mem_cons_of_mem _ (List.mem_cons_of_mem _ (List.mem_cons_self))))).cv
    go_wp2_with fail
    refine (unhide H1 (unhide HS) _ (unhide J12).b0).mono ?_
    rintro e w13 ⟨g13, gl13, gk13, rfl, hB13, b13⟩
    have HB13 := hide (Bg.bl hB13)
    have HG13 := hide ((unhide HG12).below b13)
    have J13 := hide ((unhide J12).below b13)
    clear b13 x12 HG12 J12 hB13
    go_wp2_with fail
    refine (unhide H3 _ _ _ _ _ _ _ (unhide HB13)).mono ?_
    rintro e w14 ⟨ta2, tc2, la2, lc2, ka2, kc2, rfl, hB14, b14⟩
    obtain ⟨V14, hV14⟩ : ∃ V, V = w14.alloc (.cells #[.slice ta2 E.T.length tc2, .slice la2 E.L.length lc2, .int .i64 E.sh, .bool E.re, .slice ka2 E.K.length kc2, .int .i64 E.lf, .int .i64 E.ve] 34) := ⟨_, rfl⟩
    have AL14 : Below w14.heap.size w14 V14 := by rw [hV14]; exact (Below.refl _ _).alloc (Nat.le_refl _) _
    have J14 := hide (show Iv w w3 V14 [(w14.heap.size, blC E ta2 tc2 la2 lc2 ka2 kc2), (w5.heap.size, blC E ta1 tc1 la1 lc1 ka1 kc1), (w4.heap.size, blC D (some ⟨g4, 0, none⟩) D.T.length (some ⟨gl4, 0, none⟩) D.L.length (some ⟨gk4, 0, none⟩) D.K.length), (w3.heap.size, blC E ta0 tc0 la0 lc0 ka0 kc0), (w.heap.size, blC D ta tc la lc ka kc)] by rw [hV14]; exact Iv.push ((unhide J13).below b14) _ _)
    have HE14 := hide ((Bg.bl hB14).below AL14)
    have HG14 := hide (((unhide HG13).below b14).below AL14)
    have HV14 := hide hV14
    clear hB14 b14 AL14 J13 HG13 HB13 hV14
    go_upto_region 27 with fail
    rw [← unhide HV14]
    clear HV14
    have x14 := ((unhide J14).bx _ (List.mem_cons_self)).cv
    have y14 := ((unhide J14).bx _ (List.mem_cons_of_mem _ (List.mem_cons_of_mem _ (List.mem_cons_of_mem _ (List.mem_cons_self))))).cv
    go_wp2_with fail
    refine (unhide H5 _ _ _ _ _ _ _ _ _ _ _ _ _ (unhide HE14) ((unhide HB0).below (unhide J14).b3)).mono ?_
    rintro e w15 ⟨rfl, b15⟩
    have HG15 := hide ((unhide HG14).below b15)
    have J15 := hide ((unhide J14).below b15)
    clear b15 x14 y14 HE14 HG14 J14
    have x15 := ((unhide J15).bx _ (List.mem_cons_of_mem _ (List.mem_cons_self))).cv
    go_wp2_with fail
    refine (unhide HH _ (unhide HG15)).mono ?_
    rintro e w16 ⟨rfl, b16⟩
    have BF := hide ((unhide J15).b0.trans (b16.mono (unhide J15).b0.size))
    clear b16 x15 HG15 J15
    go_wp2
    go_ret
    exact ⟨rfl, unhide BF⟩
end Go.Proofs.Ytldjenhknejpnaa.fnExactDrainBackend
