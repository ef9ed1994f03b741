/-
  The law on GoodSpace, walked out of the contracts of both sides.
-/
import Derived.Test.YtjmknfedanmcnaaSps
namespace Go.Proofs.Ytjmknfedanmcnaa.Rc
open Go.ChangeShapes Go.WideShapes Go.ChangeAt Go.RowKit Go.Deep
set_option linter.unusedVariables false
set_option maxRecDepth 100000

set_option maxHeartbeats 4000000 in
theorem goodSpace_given (D : SpaceD) (r0 : Bool) (w : World) (a : Option Addr) (c : Nat) (m : D.S.length ≤ maxLen) (h : RdSpace w a D)
    (HS : D.S.length ≤ 1048576 → ∀ (W : World) (a : Option Addr) (c : Nat) (_ : RdSpace W a D), Calls Try.prog 25 #[spaceV D a c] W fun e w' => e = .returned (.bool r0) ∧ Below W.heap.size W w')
    (HI : D.S.length ≤ 1048576 → ∀ (W : World) (a : Option Addr) (c : Nat) (_ : RdSpace W a D) (_ : D.S.length ≤ c), Calls Try.prog 27 #[spaceV D a c] W fun e w' => e = .returned (.bool r0) ∧ Below W.heap.size W w') :
    Calls Try.prog 7 #[spaceV D a c] w fun e w' => e = .returned (.bool true) ∧ Below w.heap.size w w' := by
  have HZ := hide (fun W => szSpace_any D a c 1048576 W m (Nat.le_refl _))
  have H1 := hide (fun (hs : D.S.length ≤ 1048576) W (b : Below w.heap.size w W) => toSpace_any D a c W hs (h.below b))
  have HX := hide (Bx.new w (spaceC D a c) 45)
  have H2' := hide HS
  have H3' := hide HI
  clear h HS HI
  go_enter Try.func7, Try.ntmps7
  go_wp2_with fail
  refine (unhide HZ _).mono ?_
  rintro e w1 ⟨he, b1⟩
  have B1 : Hid (Below w.heap.size w w1) := ((Below.refl _ _).alloc (Nat.le_refl _) _).trans (b1.mono (by simp))
  have HX1 := hide ((unhide HX).below b1)
  clear b1 HZ HX
  rcases he with rfl | ⟨r, rfl, _, hs⟩
  · go_wp2
    go_ret
    exact ⟨rfl, unhide B1⟩
  have hr : ¬ (r : Int) < 0 := by omega
  have x1 := (unhide HX1).cv
  have H2 := hide (unhide H2' hs)
  have H3 := hide (unhide H3' hs)
  have H4 := hide (fun a c a' c' W (h : RdSpace W a D) (h' : RdSpace W a' D) => eqSpace_same D a a' c c' W hs h h')
  have HS := hide hs
  clear hs H2' H3'
  go_wp2_with fail
  refine (unhide H1 (unhide HS) _ (unhide B1)).mono ?_
  rintro e w2 ⟨g2, rfl, hB2, b2⟩
  have HX2 := hide ((unhide HX1).below b2)
  have B2 := hide ((unhide B1).trans (b2.mono (unhide B1).size))
  have HB2 := hide (Ri.rd hB2)
  have x2 := (unhide HX2).cv
  clear x1 HX1 B1 b2 hB2
  go_wp2_with fail
  refine (unhide H2 _ _ _ (unhide HB2)).mono ?_
  rintro e w3 ⟨rfl, b3⟩
  have HX3 := hide ((unhide HX2).below b3)
  have B3 := hide ((unhide B2).trans (b3.mono (unhide B2).size))
  have x3 := (unhide HX3).cv
  clear x2 HX2 B2 HB2 b3
  go_wp2_with fail
  refine (unhide H1 (unhide HS) _ (unhide B3)).mono ?_
  rintro e w4 ⟨g4, rfl, hB4, b4⟩
  obtain ⟨V4, hV4⟩ : ∃ V, V = w4.alloc (.cells (spaceC D (some ⟨g4, 0, none⟩) D.S.length).toArray 50) := ⟨_, rfl⟩
  have AL : Below w4.heap.size w4 V4 := by rw [hV4]; exact (Below.refl _ _).alloc (Nat.le_refl _) _
  have HX4 := hide (((unhide HX3).below b4).below AL)
  have HY4 := hide (show Bx V4 w4.heap.size (spaceC D (some ⟨g4, 0, none⟩) D.S.length) by rw [hV4]; exact Bx.new w4 _ _)
  have B4 := hide (((unhide B3).trans (b4.mono (unhide B3).size)).trans (AL.mono (Nat.le_trans (unhide B3).size b4.size)))
  have HB4 := hide ((Ri.rd hB4).below AL)
  have HV4 := hide hV4
  clear HX3 B3 hB4 b4 AL hV4
  go_wp2_with fail
  rw [← unhide HV4]
  clear HV4 x3
  refine (unhide H3 _ _ _ (unhide HB4) (Nat.le_refl _)).mono ?_
  rintro e w5 ⟨rfl, b5⟩
  have HX5 := hide ((unhide HX4).below b5)
  have HY5 := hide ((unhide HY4).below b5)
  have B5 := hide ((unhide B4).trans (b5.mono (unhide B4).size))
  have HB5 := hide ((unhide HB4).below b5)
  have x5 := (unhide HX5).cv
  have y5 := (unhide HY5).cv
  clear b5 HX4 HY4 B4 HB4
  go_wp2_with fail
  have DR := hide ((unhide B5).drew)
  have HBd := hide ((unhide HB5).below (Below.refl _ _).drew)
  have xd := (unhide HX5).drew.cv
  have yd := (unhide HY5).drew.cv
  go_region_with (first | (go_at_call 26; refine (unhide H1 (unhide HS) _ (unhide DR)).mono ?_; rintro e w6 ⟨g6, rfl, hB6, b6⟩; have x6 := ((unhide HX5).drew.below b6).cv; have y6 := ((unhide HY5).drew.below b6).cv) | (go_at_call 28; refine (unhide H4 _ _ _ _ _ ((unhide HBd).below b6) (Ri.rd hB6)).mono ?_; rintro e w7 ⟨rfl, b7⟩))
  all_goals
    have B7 := hide (((unhide DR).trans (b6.mono (unhide DR).size)).trans (b7.mono (Nat.le_trans (unhide DR).size b6.size)))
    clear hB6 b6 b7
    go_wp2
    go_ret
    exact ⟨rfl, unhide B7⟩
end Go.Proofs.Ytjmknfedanmcnaa.Rc
