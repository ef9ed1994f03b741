/-
  How a balancer that is handed to a law reads.
-/
import Derived.Test.YtldjenhknejpnaaOpenT
import Derived.Test.YtldjenhknejpnaaBln
namespace Go.Proofs.Ytldjenhknejpnaa
open Go.ChangeShapes Go.WideShapes Go.ChangeAt Go.RowKit Go.Deep
set_option linter.unusedVariables false
set_option maxRecDepth 100000

theorem cBl : Try.prog.cellsOf 27 = 7 := by kernel_rfl
theorem cSt : Try.prog.cellsOf 25 = 1 := by kernel_rfl
theorem cBo : Try.prog.cellsOf 4 = 1 := by kernel_rfl
theorem open_balancer {H : Type} {enc : TypeId × Value → H} {W : World} {spare : Nat → Bool} {held : Bool} {fuel : Nat} {cs : List Value} {x : DataW H × List MemPlace}
    (h : DataW.trod enc Try.prog W 0 spare held fuel 27 cs = some x) :
    ∃ (D : BlD) (ta : Option Addr) (tc : Nat) (la : Option Addr) (lc : Nat) (ka : Option Addr) (kc : Nat), cs = blC D ta tc la lc ka kc ∧ okBl D ∧ Bl W ta la ka D := by
  obtain ⟨xs, n, _, _, hl, hlen, hf⟩ := DataW.trod_struct Try.underlying27 h
  rw [cBl] at hl
  match cs, hl, xs, hlen with
  | [c0, c1, c2, c3, c4, c5, c6], _, [y0, y1, y2, y3, y4, y5, y6], _ =>
    have g0 := hf 0 _ rfl
    have g1 := hf 1 _ rfl
    have g2 := hf 2 _ rfl
    have g3 := hf 3 _ rfl
    have g4 := hf 4 _ rfl
    have g5 := hf 5 _ rfl
    have g6 := hf 6 _ rfl
    simp [cT8, cSt, cI7, cBo] at g0 g1 g2 g3 g4 g5 g6
    obtain ⟨ta, tc, T, e0, hG, hE⟩ := open_table g0
    obtain ⟨la, lc, L, e1, hl1, hl2, hL⟩ := open_texts g1
    obtain ⟨sh, e2, _, _⟩ := DataW.trod_int Try.underlying3 g2
    obtain ⟨re, e3, _⟩ := DataW.trod_bool Try.underlying4 g3
    obtain ⟨ka, kc, K, e4, hk1, hk2, hK⟩ := open_texts g4
    obtain ⟨lf, e5, _, _⟩ := DataW.trod_int Try.underlying3 g5
    obtain ⟨ve, e6, _, _⟩ := DataW.trod_int Try.underlying3 g6
    simp at e0 e2 e3 e5 e6
    subst e0 e1 e2 e3 e4 e5 e6
    exact ⟨⟨T, L, sh, re, K, lf, ve⟩, ta, tc, la, lc, ka, kc, rfl, ⟨hG, ⟨hl1, hl2⟩, ⟨hk1, hk2⟩⟩, ⟨hE, hL, hK⟩⟩
end Go.Proofs.Ytldjenhknejpnaa
