/-
  How a laws.Rtt that is handed to a law reads.
-/
import Derived.Test.YtianpcipipdokaaRtt
import Derived.Test.YtianpcipipdokaaOre
namespace Go.Proofs.Ytianpcipipdokaa.Rc
open Go.ChangeShapes Go.WideShapes Go.ChangeAt Go.RowKit Go.Deep
set_option linter.unusedVariables false
set_option maxRecDepth 100000

/-- its numbers and texts fit -/
def okRtt (D : RttD) : Prop := okI D.la ∧ okI D.mi ∧ okI D.sm ∧ okI D.va
theorem cRtt : Try.prog.cellsOf 24 = 5 := by kernel_rfl
theorem open_Rtt {H : Type} {enc : TypeId × Value → H} {W : World} {spare : Nat → Bool} {held : Bool} {fuel : Nat} {cs : List Value} {x : DataW H × List MemPlace}
    (h : DataW.trod enc Try.prog W 0 spare held fuel 24 cs = some x) : ∃ D : RttD, cs = [.bool D.kn, .int .i64 D.la, .int .i64 D.mi, .int .i64 D.sm, .int .i64 D.va] ∧ okRtt D := by
  obtain ⟨xs, n, _, _, hl, hlen, hf⟩ := DataW.trod_struct Try.underlying24 h
  rw [cRtt] at hl
  match cs, hl, xs, hlen with
  | [c0, c1, c2, c3, c4], _, [y0, y1, y2, y3, y4], _ =>
    have g0 := hf 0 _ rfl
    have g1 := hf 1 _ rfl
    have g2 := hf 2 _ rfl
    have g3 := hf 3 _ rfl
    have g4 := hf 4 _ rfl
    simp [cBool, cInt] at g0 g1 g2 g3 g4
    obtain ⟨d0, e0, _⟩ := DataW.trod_bool Try.underlying4 g0
    obtain ⟨d1, e1, _, b1⟩ := DataW.trod_int Try.underlying3 g1
    obtain ⟨d2, e2, _, b2⟩ := DataW.trod_int Try.underlying3 g2
    obtain ⟨d3, e3, _, b3⟩ := DataW.trod_int Try.underlying3 g3
    obtain ⟨d4, e4, _, b4⟩ := DataW.trod_int Try.underlying3 g4
    simp at e0 e1 e2 e3 e4
    subst e0 e1 e2 e3 e4
    exact ⟨⟨d0, d1, d2, d3, d4⟩, rfl, ⟨bounds_i64 b1, bounds_i64 b2, bounds_i64 b3, bounds_i64 b4⟩⟩
end Go.Proofs.Ytianpcipipdokaa.Rc
