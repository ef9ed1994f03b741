/-
  The law on headers that come back, walked.
-/
import Derived.Test.YtmajcpimahkpfaaDoorHsm
namespace Go.Proofs.YtmajcpimahkpfaaDoor.fnHeaders
open Go.ChangeShapes Go.WideShapes Go.ChangeAt Go.RowKit
set_option linter.unusedVariables false
set_option maxRecDepth 100000

theorem oi_ia2 {B : Nat} {w : World} {a a' : Option Addr} {n cap cap' : Nat} {V V' : Nat → Int} {w0 : World} (h : Oi B w (.slice a n cap) n V') (e : ∀ i, i < n → V' i = V i) (h0 : Ia w0 a' n cap' V) : Ia w a n cap V := by
  rcases h0 with h0 | ⟨b0, o0, rfl, h0⟩
  · exact Or.inl h0
  rcases h.2 with h1 | ⟨g, c, cur, h1, hg, hgg, rest⟩
  · exact Or.inl h1.2
  · have h2 : a = some ⟨g, 0, none⟩ ∧ cap = c := by simpa using h1
    obtain ⟨rfl, rfl⟩ := h2
    refine Or.inr ⟨g, 0, rfl, Or.inr (Array.getElem?_eq_some_iff.1 hgg).1, fun i hi => ?_, h0.bv⟩
    rw [Nat.zero_add, World.ownsRow.cellAt h i (by omega)]
    simp [iv, hi, e i hi]
theorem Tz.under {w w' : World} (h : Tz w) (hb : Below w.heap.size w w') : Tz w' := h.kept hb (World.block_lt_of_cell? w _ h.c0)
abbrev Hx8 (x y z : Int) (p q t u : ByteArray) (b : Option Addr) (n c : Nat) : Obj := .cells #[.int .i64 x, .int .i64 y, .int .i64 z, .string p, .string q, .string t, .string u, .slice b n c] 25
set_option maxHeartbeats 4000000 in
theorem walk_small (a : Option Addr) (N cap : Nat) (w : World) (hl : N ≤ 1048576) (ha : Dr.Cd w a N) (htz : Tz w) :
    Calls Tryd.prog 3 #[.slice a N cap] w fun e w' => e = .returned (.bool true) ∧ Below w.heap.size w w' := by
  have HD := hide (Dr.drawHB_any a N cap w hl ha)
  have HT := hide htz
  clear ha htz
  have hs1 : (N : Int) ≤ 1048576 := by omega
  go_enter Tryd.func3, Tryd.ntmps3
  go_wp2_with fail
  refine (unhide HD).mono ?_
  rintro e w1 ⟨f, bi, ve, d, s, t, p, b, n, c, V, rfl, z1, z2, z3, z4, z5, hI, b1⟩
  have bb := (Below.refl w1.heap.size w1).alloc (Nat.le_refl _) (Hx8 f bi ve d s t p b n c)
  have H0 := Hh.new w1 25 (.int .i64 f) (.int .i64 bi) (.int .i64 ve) (.string d) (.string s) (.string t) (.string p) (.slice b n c)
  have I0 := hide (hI.below bb)
  have B0 := hide (b1.trans (bb.mono b1.size))
  have T0 := hide (Tz.under (unhide HT) (unhide B0))
  clear HD HT hI b1
  cases hg : gh f bi ve d.size s.size t.size p.size n V with
  | false =>
    have HIM := hide (fun (W : World) (i : Ia W b n c V) => implHB_no f bi ve d s t p n V (by omega) (by omega) (by omega) (by omega) (by omega) b c W i hg)
    have HSM := hide (fun (W : World) (i : Ia W b n c V) => specHB_no f bi ve d s t p n V (by omega) (by omega) (by omega) (by omega) (by omega) b c W i hg)
    clear hg
    go_wp2_with fail
    refine (unhide HIM _ (unhide I0)).mono ?_
    rintro e w2 ⟨rfl, b2⟩
    obtain ⟨y0, y1, y2, y3, y4, y5, y6, y7, y8, yf⟩ := H0.below b2
    have I2 := hide ((unhide I0).below b2)
    have B2 := hide ((unhide B0).trans (b2.mono (unhide B0).size))
    clear b2 bb
    go_wp2_with fail
    refine (unhide HSM _ (unhide I2)).mono ?_
    rintro e w3 ⟨rfl, b3⟩
    have B3 := hide ((unhide B2).trans (b3.mono (unhide B2).size))
    clear b3 y0 y1 y2 y3 y4 y5 y6 y7 y8 yf
    go_wp2
    go_ret
    exact ⟨rfl, unhide B3⟩
  | true =>
    have HIM := hide (fun (W : World) (i : Ia W b n c V) (hz : Tz W) => hbI f bi ve d s t p n V (by omega) (by omega) (by omega) (by omega) (by omega) b c W hz i hg)
    have HSM := hide (fun (W : World) (i : Ia W b n c V) => hbS f bi ve d s t p n V (by omega) (by omega) (by omega) (by omega) (by omega) b c W i hg)
    obtain ⟨V', hV, hR, hDs, hd20, hBz⟩ := hb_back f bi ve d s t p n V hg
    have HV := hide hV
    have HRD := hide (fun W => rdh_ok (HBW f bi ve d s t p n V) d.size _ W hBz hd20 hR)
    have HDS := hide (fun W => implDest_some (HBW f bi ve d s t p n V) d.size W _ hBz hd20 hDs)
    have hl5 : (f != 5) = decide (f ≠ 5) := by
      by_cases e5 : f = 5
      · simp [e5]
      · simp [e5]
    clear hg hV hR hDs hd20
    simp only at HRD HDS
    generalize HBW f bi ve d s t p n V = B at *
    generalize decide (f ≠ 5) = lf at *
    go_wp2_with fail
    refine (unhide HIM _ (unhide I0) (unhide T0)).mono ?_
    rintro e w2 ⟨rfl, b2⟩
    have H2 := H0.below b2
    have I2 := hide ((unhide I0).below b2)
    have B2 := hide ((unhide B0).trans (b2.mono (unhide B0).size))
    clear b2 bb H0 T0 I0 B0 HIM
    obtain ⟨y0, y1, y2, y3, y4, y5, y6, y7, y8, yf⟩ := id H2
    go_wp2_with fail
    refine (unhide HSM _ (unhide I2)).mono ?_
    rintro e w3 ⟨rfl, b3⟩
    have H3 := H2.below b3
    have I3 := hide ((unhide I2).below b3)
    have B3 := hide ((unhide B2).trans (b3.mono (unhide B2).size))
    clear b3 y0 y1 y2 y3 y4 y5 y6 y7 y8 yf H2 I2 B2 HSM
    obtain ⟨y0, y1, y2, y3, y4, y5, y6, y7, y8, yf⟩ := id H3
    go_wp2_with fail
    refine (unhide HRD _).mono ?_
    rintro e w4 ⟨ra, rc, rfl, o4, b4⟩
    have bb := (Below.refl w4.heap.size w4).alloc (Nat.le_refl _) (Hx8 f bi ve d s t p ra n rc)
    have H4 := (H3.below b4).below bb
    have G4 := Hh.new w4 25 (.int .i64 f) (.int .i64 bi) (.int .i64 ve) (.string d) (.string s) (.string t) (.string p) (.slice ra n rc)
    have I4 := hide (((unhide I3).below b4).below bb)
    have J4 := hide ((oi_ia2 o4 (unhide HV) (unhide I3)).below bb)
    have B4 := hide (((unhide B3).trans (b4.mono (unhide B3).size)).trans (bb.mono (Nat.le_trans (unhide B3).size b4.size)))
    clear b4 o4 y0 y1 y2 y3 y4 y5 y6 y7 y8 yf H3 I3 B3 HRD HV bb
    obtain ⟨y0, y1, y2, y3, y4, y5, y6, y7, y8, yf⟩ := id H4
    go_wp2_with fail
    refine (unhide HDS _).mono ?_
    rintro e w5 ⟨rfl, b5⟩
    have H5 := H4.below b5
    have G5 := G4.below b5
    have I5 := hide ((unhide I4).below b5)
    have J5 := hide ((unhide J4).below b5)
    have B5 := hide ((unhide B4).trans (b5.mono (unhide B4).size))
    clear b5 y0 y1 y2 y3 y4 y5 y6 y7 y8 yf H4 G4 I4 J4 B4 HDS
    obtain ⟨y0, y1, y2, y3, y4, y5, y6, y7, y8, yf⟩ := id H5
    obtain ⟨x0, x1, x2, x3, x4, x5, x6, x7, x8, xf⟩ := id G5
    go_wp2_with fail
    refine (sameHd f bi ve d s t p ra b n rc c V _ (by omega) (unhide J5) (unhide I5)).mono ?_
    rintro e w6 ⟨rfl, b6⟩
    have H6 := H5.below b6
    have B6 := hide ((unhide B5).trans (b6.mono (unhide B5).size))
    clear b6 y0 y1 y2 y3 y4 y5 y6 y7 y8 yf x0 x1 x2 x3 x4 x5 x6 x7 x8 xf H5 G5 I5 J5 B5
    obtain ⟨y0, y1, y2, y3, y4, y5, y6, y7, y8, yf⟩ := id H6
    go_wp2
    go_ret
    exact ⟨rfl, unhide B6⟩
theorem walk_big (a : Option Addr) (N cap : Nat) (w : World) (hl : (1048576 : Int) < N) :
    Calls Tryd.prog 3 #[.slice a N cap] w fun e w' => e = .returned (.bool true) ∧ Below w.heap.size w w' := by
  go_enter Tryd.func3, Tryd.ntmps3
  go_wp2
  go_ret
  exact ⟨rfl, Below.refl _ _⟩
theorem walk (a : Option Addr) (N cap : Nat) (w : World) (ha : Dr.Cd w a N) (htz : Tz w) :
    Calls Tryd.prog 3 #[.slice a N cap] w fun e w' => e = .returned (.bool true) ∧ Below w.heap.size w w' := by
  by_cases hl : N ≤ 1048576
  · exact walk_small a N cap w hl ha htz
  · exact walk_big a N cap w (by omega)
end Go.Proofs.YtmajcpimahkpfaaDoor.fnHeaders
