/-
  The law on AllocServer, walked.
-/
import Derived.Test.YthgogkimjhjepaaTlw
import Derived.Test.YthgogkimjhjepaaSal
namespace Go.Proofs.Ythgogkimjhjepaa.fnExactAllocServer
open Go.ChangeShapes Go.WideShapes Go.ChangeAt Go.RowKit Go.Deep
set_option linter.unusedVariables false
set_option maxRecDepth 100000

/-- what comes of a table is small enough -/
theorem au_small {L : List EnD} {s : Int} {id bk : ByteArray} {L' : List EnD} {c : Int} (h : auP L s id bk L' c) (hk : smK L) : smK L' := by
  have each : ∀ M : List EnD, (∀ i, i < M.length → (eA M i).S.length ≤ 1048576) → M.length ≤ 3 → smK M := fun M hS hl => by
    refine ⟨by omega, hS, fun i hi => ?_⟩
    have b : ∀ q, q ≤ M.length → kA 1 M q ≤ 1 + q * 2097158 := by
      intro q
      induction q with
      | zero => intro _; show 1 ≤ _; omega
      | succ q ih =>
        intro hq
        have h1 := ih (by omega)
        have h2 := hS q (by omega)
        show kA 1 M q + 6 + 2 * (eA M q).S.length ≤ _
        omega
    have := b i hi
    omega
  rcases h with ⟨_, rfl, _⟩ | ⟨_, _, rfl, _⟩ | ⟨_, _, _, rfl, _⟩ | ⟨hg, _, i, hi, _, h⟩
  · exact each [] (fun i hi => absurd hi (Nat.not_lt_zero _)) (by simp)
  · exact hk
  · exact hk
  · rcases h with ⟨_, rfl, _⟩ | ⟨_, _, rfl, _⟩ | ⟨_, _, _, rfl, _⟩ | ⟨_, _, _, rfl, _⟩
    · exact hk
    · exact hk
    · exact hk
    · refine each _ (fun j hj => ?_) (by rw [List.length_set]; exact (gt_facts hg).1)
      rw [List.length_set] at hj
      rw [stE_at L i j _ hj]
      by_cases e : j = i
      · rw [if_pos e]
        have h12 := gt_len hg i hi
        show ((eA L i).S.take _ ++ _ :: (eA L i).S.drop _).length ≤ _
        rw [ins_len _ _ _ (plP_le id)]
        omega
      · rw [if_neg e]; exact hk.2.1 j hj
set_option maxHeartbeats 8000000 in
theorem walk_small (a : Option Addr) (cap : Nat) (L : List EnD) (s : Int) (hs : (Lit.int .i64 s).wf = true) (id bk : ByteArray) (hid : id.size ≤ 1048576) (hbk : bk.size ≤ 1048576) (w : World) (hG : okE L) (h : Ea w a L) :
    Calls Try.prog 3 #[.agg #[.slice a L.length cap], .int .i64 s, .string id, .string bk] w fun e w' => e = .returned (.bool true) ∧ Below w.heap.size w w' := by
  have g1 : ¬ (1048576 : Int) < id.size := by omega
  have g2 : ¬ (1048576 : Int) < bk.size := by omega
  have HZ := hide (fun W (b : Below w.heap.size w W) => szTb a cap L W hG (h.below b))
  by_cases hl : 1048576 < wtE L
  · rw [show lfR 1048576 (wtE L) = -1 from if_pos hl] at HZ
    clear h hG
    go_enter Try.func3, Try.ntmps3
    go_wp2_with fail
    refine (unhide HZ _ ((Below.refl _ _).alloc (Nat.le_refl _) _)).mono ?_
    rintro e w1 ⟨rfl, b1⟩
    go_wp2
    go_ret
    exact ⟨rfl, ((Below.refl _ _).alloc (Nat.le_refl _) _).trans (b1.mono (by simp))⟩
  obtain ⟨hk, hsmall⟩ := wt_small L hl
  obtain ⟨m, hm⟩ : ∃ m : Nat, lfR 1048576 (wtE L) = (m : Int) := ⟨1048576 - wtE L, by unfold lfR; rw [if_neg hl]; omega⟩
  rw [hm] at HZ
  have hm0 : 0 ≤ (m : Int) := by omega
  have H1 := hide (fun W (b : Below w.heap.size w W) => toTb a cap L W hk.1 hk.2.1 (h.below b))
  have H2 := hide (fun a' cap' W (hE : Ea W a' L) => specAl a' cap' L s id bk W hid hbk hG hk.2.1 hE)
  have H3 := hide (fun a' cap' W (hE : Ea W a' L) => implAl a' cap' L s id bk W hs hid hbk hG hk.2.1 (fun hg i hi => ⟨(hsmall i hi).1, by have := gt_len hg i hi; omega, (hsmall i hi).2.2⟩) hE)
  have H4 := hide (fun a1 a2 c1 c2 W (h1 : Ea W a1 L) (h2 : Ea W a2 L) => eqTb a1 a2 c1 c2 L W hk.1 hk.2.1 h1 h2)
  have HK := hide hk
  clear h hG hl hk hsmall hm
  go_enter Try.func3, Try.ntmps3
  go_wp2_with fail
  refine (unhide HZ _ ((Below.refl _ _).alloc (Nat.le_refl _) _)).mono ?_
  rintro e w1 ⟨rfl, b1⟩
  have I1 : Iv w w w1 [(w.heap.size, [.slice a L.length cap])] := Iv.below (Iv.push ⟨Below.refl _ _, Below.refl _ _, fun p hp => (by cases hp)⟩ [.slice a L.length cap] 24) b1
  have x1 := (I1.bx _ (List.mem_cons_self)).cv
  have J1 := hide I1
  clear I1 b1
  go_wp2_with fail
  refine (unhide H1 _ (unhide J1).b0).mono ?_
  rintro e w2 ⟨g2, B2, rfl, hE2, b2⟩
  have J2 := hide ((unhide J1).below b2)
  have HE2 := hide (En.ea (Or.inr ⟨g2, B2, rfl, hE2⟩ : En _ w2 (some ⟨g2, 0, none⟩) L))
  clear x1 hE2 b2 J1
  go_wp2_with fail
  refine (unhide H2 _ _ _ (unhide HE2)).mono ?_
  rintro e w3 ⟨L0, c0, a0, p0, hP0, rfl, hE0, b3⟩
  have I3 := (unhide J2).below b3
  have J3 : Hid (Iv w w3 w3 [(w.heap.size, [.slice a L.length cap])]) := ⟨I3.b0, Below.refl _ _, I3.bx⟩
  have HE0 := hide hE0
  have HP0 := hide hP0
  have HK0 := hide (au_small hP0 (unhide HK))
  clear hE0 hP0 b3 I3 J2 HE2
  have J3a := hide (Iv.push (unhide J3) [.slice a0 L0.length p0] 28)
  have x3 := ((unhide J3a).bx _ (List.mem_cons_of_mem _ List.mem_cons_self)).cv
  have l3 := ((unhide J3a).bx _ (List.mem_cons_of_mem _ List.mem_cons_self)).lt
  have l3b := ((unhide J3).bx _ (List.mem_cons_self)).lt
  have z3 := (unhide J3).b0.size
  clear J3
  go_wp2_with fail
  refine (unhide H1 _ (unhide J3a).b0).mono ?_
  rintro e w4 ⟨g4, B4, rfl, hE4, b4⟩
  have hE4' : Eo (w3.heap.size + 1) w4 g4 B4 L := by simpa using hE4
  have X4 : Eg (w3.heap.size + 1) w4.heap.size w4 (some ⟨g4, 0, none⟩) L := En.eg (Or.inr ⟨g4, B4, rfl, hE4'⟩)
  have AL4 : Below w4.heap.size w4 (w4.alloc (.cells #[.slice (some ⟨g4, 0, none⟩) L.length L.length] 28)) := (Below.refl _ _).alloc (Nat.le_refl _) _
  have J4 := hide (Iv.push ((unhide J3a).below b4) [.slice (some ⟨g4, 0, none⟩) L.length L.length] 28)
  have HX4 := hide (X4.below AL4)
  have z4 : w3.heap.size < w4.heap.size := by have := b4.size; simp at this; omega
  have x4 := ((unhide J4).bx _ (List.mem_cons_self)).cv
  clear hE4 hE4' X4 AL4 b4 J3a x3 l3
  go_wp2_with fail
  refine (unhide H3 _ _ _ (unhide HX4).ea).mono ?_
  rintro e w5 ⟨L1, c1, a1, p1, hP1, rfl, hE1, b5⟩
  obtain ⟨e1, e2⟩ := auP_uniq hP1 (unhide HP0)
  subst e1 e2
  have z5 : w4.heap.size < w5.heap.size := by have := b5.size; simp at this; omega
  have hE1' : En (w4.heap.size + 1) w5 a1 L1 := by simpa using hE1
  have AL5 : Below w5.heap.size w5 (w5.alloc (.cells #[.slice a1 L1.length p1] 28)) := (Below.refl _ _).alloc (Nat.le_refl _) _
  have HG5 := hide ((En.eg hE1').below AL5)
  have HX5 := hide (((unhide HX4).below b5).below AL5)
  have J5 := hide (Iv.push ((unhide J4).below b5) [.slice a1 L1.length p1] 28)
  have H5 := hide (fun a1 a2 c1 c2 W (h1 : Ea W a1 L1) (h2 : Ea W a2 L1) => eqTb a1 a2 c1 c2 L1 W (unhide HK0).1 (unhide HK0).2.1 h1 h2)
  have x5 := ((unhide J5).bx _ (List.mem_cons_self)).cv
  have y5 := ((unhide J5).bx _ (List.mem_cons_of_mem _ (List.mem_cons_of_mem _ List.mem_cons_self))).cv
  have l5 := ((unhide J5).bx _ (List.mem_cons_of_mem _ (List.mem_cons_of_mem _ List.mem_cons_self))).lt
  have HP9 := hide hP1
  clear hE1 hE1' AL5 b5 J4 HX4 x4 hP1 HP0
  go_wp2_with fail
  refine (unhide H5 _ _ _ _ _ (unhide HG5).ea ((unhide HE0).below (unhide J5).b3)).mono ?_
  rintro e w6 ⟨rfl, b6⟩
  have HG6 := hide ((unhide HG5).below b6)
  have HX6 := hide ((unhide HX5).below b6)
  have J6 := hide ((unhide J5).below b6)
  have x6 := ((unhide J6).bx _ (List.mem_cons_of_mem _ List.mem_cons_self)).cv
  have y6 := ((unhide J6).bx _ (List.mem_cons_of_mem _ (List.mem_cons_of_mem _ (List.mem_cons_of_mem _ List.mem_cons_self)))).cv
  clear b6 x5 y5 l5 HG5 HX5 J5
  go_wp2_with fail
  have DR := hide ((unhide J6).below (Below.refl _ _).drew)
  have HXd := hide ((unhide HX6).below (Below.refl _ _).drew)
  have HGd := hide ((unhide HG6).below (Below.refl _ _).drew)
  have yl := ((unhide J6).bx _ (List.mem_cons_of_mem _ List.mem_cons_self)).lt
  clear HG6 HX6
  go_region_with (first | (go_at_call 6; refine (unhide H1 _ (unhide DR).b0).mono ?_; rintro e w7 ⟨g7, B7, rfl, hE7, b7⟩; have x7 := (((unhide DR).below b7).bx _ (List.mem_cons_of_mem _ List.mem_cons_self)).cv) | (go_at_call 8; refine (unhide H4 _ _ _ _ _ ((unhide HXd).ea.below b7) (En.ea (Or.inr ⟨g7, B7, rfl, hE7⟩))).mono ?_; rintro e w8 ⟨rfl, b8⟩))
  all_goals
    have J8 := hide (((unhide DR).below b7).below b8)
    have HX8 := hide (((unhide HXd).below b7).below b8)
    have HG8 := hide (((unhide HGd).below b7).below b8)
    clear hE7 b7 b8 x7 x6 y6 J6 DR HXd HGd yl
    have x8 := ((unhide J8).bx _ (List.mem_cons_of_mem _ List.mem_cons_self)).cv
    have hb8 : w3.heap.size + 1 ≤ w8.heap.size := by have := ((unhide J8).bx _ (List.mem_cons_of_mem _ List.mem_cons_self)).lt; omega
    have hk9 : (0 : Int) ≤ (kA 1 L L.length : Int) := by omega
    have MX := hide (markEg (w3.heap.size + 1) w4.heap.size L.length (some ⟨g4, 0, none⟩) L w8 (unhide HK) hb8 (unhide HX8))
    generalize kA 1 L L.length = kx at *
    go_wp2_with fail
    refine (unhide MX).mono ?_
    rintro e w9 ⟨rfl, hx9, q9⟩
    have J9 := hide ((unhide J8).mark q9 (fun q hq => ⟨by omega, by omega⟩) (fun p hp => by
      simp only [List.mem_cons, List.not_mem_nil, or_false] at hp
      rcases hp with rfl | rfl | rfl | rfl <;> (simp only; omega)))
    have HG9 := hide ((unhide HG8).kq q9 (fun q hq => by omega))
    clear hx9 q9 x8 hb8 MX HX8 HG8 J8
    have x9 := ((unhide J9).bx _ (List.mem_cons_self)).cv
    have y9 := ((unhide J9).bx _ (List.mem_cons_of_mem _ (List.mem_cons_of_mem _ List.mem_cons_self))).cv
    go_wp2_with fail
    refine (unhide H5 _ _ _ _ _ (unhide HG9).ea ((unhide HE0).below (unhide J9).b3)).mono ?_
    rintro e w10 ⟨rfl, b10⟩
    have HG10 := hide ((unhide HG9).below b10)
    have J10 := hide ((unhide J9).below b10)
    clear b10 x9 y9 J9 HG9
    have x10 := ((unhide J10).bx _ (List.mem_cons_self)).cv
    have l10 := ((unhide J10).bx _ (List.mem_cons_self)).lt
    have MG := hide (markEg (w4.heap.size + 1) w5.heap.size p1 a1 L1 w10 (unhide HK0) (by omega) (unhide HG10))
    have HH := hide (fun W (hW : Eg (w4.heap.size + 1) w5.heap.size W a1 (Lm 1 L1 L1.length)) => heldEg (w4.heap.size + 1) w5.heap.size p1 a1 L1 W (unhide HK0) hW)
    have hk10 : (0 : Int) ≤ (kA 1 L1 L1.length : Int) := by omega
    generalize kA 1 L1 L1.length = kg at *
    go_wp2_with fail
    refine (unhide MG).mono ?_
    rintro e w11 ⟨rfl, hg11, q11⟩
    have J11 := hide ((unhide J10).mark q11 (fun q hq => ⟨by omega, by omega⟩) (fun p hp => by
      simp only [List.mem_cons, List.not_mem_nil, or_false] at hp
      rcases hp with rfl | rfl | rfl | rfl <;> (simp only; omega)))
    have HG11 := hide hg11
    clear hg11 q11 x10 l10 MG HG10 J10
    have x11 := ((unhide J11).bx _ (List.mem_cons_self)).cv
    go_wp2_with fail
    refine (unhide HH _ (unhide HG11)).mono ?_
    rintro e w12 ⟨rfl, b12⟩
    have HG12 := hide ((unhide HG11).below b12)
    have J12 := hide ((unhide J11).below b12)
    clear b12 x11 HG11 J11
    have x12 := ((unhide J12).bx _ (List.mem_cons_of_mem _ (List.mem_cons_of_mem _ (List.mem_cons_of_mem _ List.mem_cons_self)))).cv
    go_wp2_with fail
    refine (unhide H1 _ (unhide J12).b0).mono ?_
    rintro e w13 ⟨g13, B13, rfl, hE13, b13⟩
    have HE13 := hide (En.ea (Or.inr ⟨g13, B13, rfl, hE13⟩ : En _ w13 (some ⟨g13, 0, none⟩) L))
    have HG13 := hide ((unhide HG12).below b13)
    have J13 := hide ((unhide J12).below b13)
    clear b13 x12 HG12 J12 hE13
    go_wp2_with fail
    refine (unhide H3 _ _ _ (unhide HE13)).mono ?_
    rintro e w14 ⟨L2, c2, a2, p2, hP2, rfl, hE2, b14⟩
    obtain ⟨e1, e2⟩ := auP_uniq (unhide HP9) hP2
    subst e1 e2
    have AL14 : Below w14.heap.size w14 (w14.alloc (.cells #[.slice a2 L1.length p2] 28)) := (Below.refl _ _).alloc (Nat.le_refl _) _
    have HE14 := hide (hE2.ea.below AL14)
    have HG14 := hide (((unhide HG13).below b14).below AL14)
    have J14 := hide (Iv.push ((unhide J13).below b14) [.slice a2 L1.length p2] 28)
    clear hE2 AL14 b14 J13 HG13 HE13 hP2
    have x14 := ((unhide J14).bx _ (List.mem_cons_self)).cv
    have y14 := ((unhide J14).bx _ (List.mem_cons_of_mem _ (List.mem_cons_of_mem _ (List.mem_cons_of_mem _ List.mem_cons_self)))).cv
    have l14 := ((unhide J14).bx _ (List.mem_cons_of_mem _ (List.mem_cons_of_mem _ (List.mem_cons_of_mem _ List.mem_cons_self)))).lt
    go_wp2_with fail
    refine (unhide H5 _ _ _ _ _ (unhide HE14) ((unhide HE0).below (unhide J14).b3)).mono ?_
    rintro e w15 ⟨rfl, b15⟩
    have HG15 := hide ((unhide HG14).below b15)
    have J15 := hide ((unhide J14).below b15)
    clear b15 x14 y14 l14 HE14 HG14 J14
    have x15 := ((unhide J15).bx _ (List.mem_cons_of_mem _ List.mem_cons_self)).cv
    go_wp2_with fail
    refine (unhide HH _ (unhide HG15)).mono ?_
    rintro e w16 ⟨rfl, b16⟩
    have BF := hide ((unhide J15).b0.trans (b16.mono (unhide J15).b0.size))
    clear b16 x15 HG15 J15
    go_wp2
    go_ret
    exact ⟨rfl, unhide BF⟩
theorem walk (a : Option Addr) (cap : Nat) (L : List EnD) (s : Int) (hs : (Lit.int .i64 s).wf = true) (id bk : ByteArray) (k1 : id.size ≤ maxLen) (k2 : bk.size ≤ maxLen) (w : World) (hG : okE L) (h : Ea w a L) :
    Calls Try.prog 3 #[.agg #[.slice a L.length cap], .int .i64 s, .string id, .string bk] w fun e w' => e = .returned (.bool true) ∧ Below w.heap.size w w' := by
  unfold maxLen at k1 k2
  by_cases l1 : (1048576 : Int) < id.size
  · go_enter Try.func3, Try.ntmps3
    go_wp2
    go_ret
    exact ⟨rfl, (Below.refl _ _).alloc (Nat.le_refl _) _⟩
  by_cases l2 : (1048576 : Int) < bk.size
  · go_enter Try.func3, Try.ntmps3
    go_wp2
    go_ret
    exact ⟨rfl, (Below.refl _ _).alloc (Nat.le_refl _) _⟩
  exact walk_small a cap L s hs id bk (by omega) (by omega) w hG h
end Go.Proofs.Ythgogkimjhjepaa.fnExactAllocServer
