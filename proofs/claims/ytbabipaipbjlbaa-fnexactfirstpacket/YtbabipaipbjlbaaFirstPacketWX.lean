/-
  The law on FirstPacket, walked. How a config that is handed to a law reads.
-/
import Derived.Test.YtbabipaipbjlbaaFpk
import Derived.Test.YtbabipaipbjlbaaBaseX
import Derived.Deep.Slices
import Derived.Lib.SmallJoins
namespace Go.Proofs.Ytbabipaipbjlbaa.fnExactFirstPacket
open Go.ChangeShapes Go.WideShapes Go.ChangeAt Go.RowKit Go.Deep
set_option linter.unusedVariables false
set_option maxRecDepth 100000

set_option maxHeartbeats 4000000 in
theorem walk (D : BlD) (ta la ka : Option Addr) (tc lc kc : Nat) (x : ByteArray) (hx : x.size ≤ maxLen) (w : World) (ho : okBl D) (h : Bl w ta la ka D) :
    Calls Try.prog 3 #[blV D ta tc la lc ka kc, .string x] w fun e w' => e = .returned (.bool true) ∧ Below w.heap.size w w' := by
  unfold maxLen at hx
  by_cases hl : (1048576 : Int) < x.size
  · clear h ho
    go_enter Try.func3, Try.ntmps3
    go_wp2
    go_ret
    exact ⟨rfl, (Below.refl _ _).alloc (Nat.le_refl _) _⟩
  have HZ := hide (fun W (b : Below w.heap.size w W) => szBl D ta la ka tc lc kc W ho (h.below b))
  have H1 := hide (fun (hs : smB D) W (b : Below w.heap.size w W) => toBl D ta la ka tc lc kc W hs (h.below b))
  have HX := hide (Bx.new w (blC D ta tc la lc ka kc) 27)
  clear h ho
  go_enter Try.func3, Try.ntmps3
  go_wp2_with fail
  refine (unhide HZ _ ((Below.refl _ _).alloc (Nat.le_refl _) _)).mono ?_
  rintro e w1 ⟨he, b1⟩
  have B1 : Hid (Below w.heap.size w w1) := ((Below.refl _ _).alloc (Nat.le_refl _) _).trans (b1.mono (by simp))
  have HX1 := hide ((unhide HX).below b1)
  clear b1 HZ HX
  rcases he with rfl | ⟨⟨r, rfl⟩, hs⟩
  · go_wp2
    go_ret
    exact ⟨rfl, unhide B1⟩
  have hr : ¬ (r : Int) < 0 := by omega
  have x1 := (unhide HX1).cv
  have H2 := hide (fun ta' la' ka' tc' lc' kc' W (hB : Bl W ta' la' ka' D) => specFp D ta' la' ka' tc' lc' kc' x (by omega) W hs hB)
  have H3 := hide (fun ta' la' ka' tc' lc' kc' W (hB : Bl W ta' la' ka' D) => implFp D ta' la' ka' tc' lc' kc' x (by omega) W hs hB)
  have H4 := hide (fun ta la ka tc lc kc ta' la' ka' tc' lc' kc' W (h : Bl W ta la ka D) (h' : Bl W ta' la' ka' D) => eqBl D ta la ka tc lc kc ta' la' ka' tc' lc' kc' W hs.t hs.l hs.k h h')
  generalize fpW D x (fpB D x) = r0 at *
  generalize fpB D x = r1 at *
  have HS := hide hs
  clear hs
  go_wp2_with fail
  refine (unhide H1 (unhide HS) _ (unhide B1)).mono ?_
  rintro e w2 ⟨g2, gl2, gk2, rfl, hB2, b2⟩
  have HX2 := hide ((unhide HX1).below b2)
  have B2 := hide ((unhide B1).trans (b2.mono (unhide B1).size))
  have HB2 := hide (Bg.bl hB2)
  have x2 := (unhide HX2).cv
  clear x1 HX1 B1 b2 hB2
  go_wp2_with fail
  refine (unhide H2 _ _ _ _ _ _ _ (unhide HB2)).mono ?_
  rintro e w3 ⟨rfl, b3⟩
  have HX3 := hide ((unhide HX2).below b3)
  have B3 := hide ((unhide B2).trans (b3.mono (unhide B2).size))
  have x3 := (unhide HX3).cv
  clear x2 HX2 B2 HB2 b3
  go_wp2_with fail
  refine (unhide H1 (unhide HS) _ (unhide B3)).mono ?_
  rintro e w4 ⟨g4, gl4, gk4, rfl, hB4, b4⟩
  obtain ⟨V4, hV4⟩ : ∃ V, V = w4.alloc (.cells #[.slice (some ⟨g4, 0, none⟩) D.T.length D.T.length, .slice (some ⟨gl4, 0, none⟩) D.L.length D.L.length, .int .i64 D.sh, .bool D.re, .slice (some ⟨gk4, 0, none⟩) D.K.length D.K.length, .int .i64 D.lf, .int .i64 D.ve] 35) := ⟨_, rfl⟩
  have AL : Below w4.heap.size w4 V4 := by rw [hV4]; exact (Below.refl _ _).alloc (Nat.le_refl _) _
  have HX4 := hide (((unhide HX3).below b4).below AL)
  have HY4 := hide (show Bx V4 w4.heap.size (blC D (some ⟨g4, 0, none⟩) D.T.length (some ⟨gl4, 0, none⟩) D.L.length (some ⟨gk4, 0, none⟩) D.K.length) by rw [hV4]; exact Bx.new w4 _ _)
  have B4 := hide (((unhide B3).trans (b4.mono (unhide B3).size)).trans (AL.mono (Nat.le_trans (unhide B3).size b4.size)))
  have HB4 := hide ((Bg.bl hB4).below AL)
  have HV4 := hide hV4
  clear HX3 B3 hB4 b4 AL hV4
  go_wp2_with fail
  rw [← unhide HV4]
  clear HV4 x3
  refine (unhide H3 _ _ _ _ _ _ _ (unhide HB4)).mono ?_
  rintro e w5 ⟨rfl, b5⟩
  have HX5 := hide ((unhide HX4).below b5)
  have HY5 := hide ((unhide HY4).below b5)
  have B5 := hide ((unhide B4).trans (b5.mono (unhide B4).size))
  have HB5 := hide ((unhide HB4).below b5)
  have x5 := (unhide HX5).cv
  have y5 := (unhide HY5).cv
  clear b5 HX4 HY4 B4 HB4
  go_wp2_with fail
  have DR := hide ((unhide B5).drew)
  have HBd := hide ((unhide HB5).below (Below.refl _ _).drew)
  have xd := (unhide HX5).drew.cv
  have yd := (unhide HY5).drew.cv
  go_region_with (first | (go_at_call 8; refine (unhide H1 (unhide HS) _ (unhide DR)).mono ?_; rintro e w6 ⟨g6, gl6, gk6, rfl, hB6, b6⟩; have x6 := ((unhide HX5).drew.below b6).cv; have y6 := ((unhide HY5).drew.below b6).cv) | (go_at_call 10; refine (unhide H4 _ _ _ _ _ _ _ _ _ _ _ _ _ ((unhide HBd).below b6) (Bg.bl hB6)).mono ?_; rintro e w7 ⟨rfl, b7⟩))
  all_goals
    have B7 := hide (((unhide DR).trans (b6.mono (unhide DR).size)).trans (b7.mono (Nat.le_trans (unhide DR).size b6.size)))
    clear hB6 b6 b7
    go_wp2
    go_ret
    exact ⟨rfl, unhide B7⟩
end Go.Proofs.Ytbabipaipbjlbaa.fnExactFirstPacket
namespace Go.Proofs.Ytbabipaipbjlbaa
open Go.ChangeShapes Go.WideShapes Go.ChangeAt Go.RowKit Go.Deep
set_option linter.unusedVariables false
set_option maxRecDepth 100000

theorem cI7 : Try.prog.cellsOf 3 = 1 := by kernel_rfl
theorem cS7 : Try.prog.cellsOf 9 = 1 := by kernel_rfl
theorem cB7 : Try.prog.cellsOf 4 = 1 := by kernel_rfl
theorem cK7 : Try.prog.cellsOf 119 = 5 := by kernel_rfl

theorem open_config {H : Type} {enc : TypeId × Value → H} {W : World} {spare : Nat → Bool} {held : Bool} {fuel : Nat} {cs : List Value} {x : DataW H × List MemPlace}
    (h : DataW.trod enc Try.prog W 0 spare held fuel 119 cs = some x) :
    ∃ (sl sv nc : Int) (k : ByteArray) (t : Bool), cs = [.int .i64 sl, .int .i64 sv, .int .i64 nc, .string k, .bool t] ∧ k.size ≤ maxLen ∧
      (Lit.int .i64 sl).wf = true ∧ (Lit.int .i64 sv).wf = true ∧ (Lit.int .i64 nc).wf = true := by
  obtain ⟨xs, n, _, _, hl, hlen, hf⟩ := DataW.trod_struct Try.underlying119 h
  rw [cK7] at hl
  match cs, hl, xs, hlen with
  | [c0, c1, c2, c3, c4], _, [y0, y1, y2, y3, y4], _ =>
    have g0 := hf 0 _ rfl
    have g1 := hf 1 _ rfl
    have g2 := hf 2 _ rfl
    have g3 := hf 3 _ rfl
    have g4 := hf 4 _ rfl
    simp [cI7, cS7, cB7] at g0 g1 g2 g3 g4
    obtain ⟨sl, e0, _, w0⟩ := DataW.trod_int Try.underlying3 g0
    obtain ⟨sv, e1, _, w1⟩ := DataW.trod_int Try.underlying3 g1
    obtain ⟨nc, e2, _, w2⟩ := DataW.trod_int Try.underlying3 g2
    obtain ⟨k, e3, _, hk⟩ := DataW.trod_string Try.underlying9 g3
    obtain ⟨t, e4, _⟩ := DataW.trod_bool Try.underlying4 g4
    simp at e0 e1 e2 e3 e4
    subst e0 e1 e2 e3 e4
    exact ⟨sl, sv, nc, k, t, rfl, hk, w0, w1, w2⟩
end Go.Proofs.Ytbabipaipbjlbaa
