/-
  How a laws.Window that is handed to a law reads.
-/
import Derived.Test.YtcmniehcabnmeabRcWindow
import Derived.Test.YtcmniehcabnmeabOre
namespace Go.Proofs.Ytcmniehcabnmeab.Rc
open Go.ChangeShapes Go.WideShapes Go.ChangeAt Go.RowKit Go.Deep
set_option linter.unusedVariables false
set_option maxRecDepth 100000

/-- its numbers and texts fit -/
def okWindow (D : WindowD) : Prop := okI D.f0 ∧ okI D.f1 ∧ okI D.f2 ∧ okI D.f3
theorem cWindow : Try.prog.cellsOf 23 = 4 := by kernel_rfl
theorem open_Window {H : Type} {enc : TypeId × Value → H} {W : World} {spare : Nat → Bool} {held : Bool} {fuel : Nat} {cs : List Value} {x : DataW H × List MemPlace}
    (h : DataW.trod enc Try.prog W 0 spare held fuel 23 cs = some x) : ∃ D : WindowD, cs = [.int .i64 D.f0, .int .i64 D.f1, .int .i64 D.f2, .int .i64 D.f3] ∧ okWindow D := by
  obtain ⟨xs, n, _, _, hl, hlen, hf⟩ := DataW.trod_struct Try.underlying23 h
  rw [cWindow] at hl
  match cs, hl, xs, hlen with
  | [c0, c1, c2, c3], _, [y0, y1, y2, y3], _ =>
    have g0 := hf 0 _ rfl
    have g1 := hf 1 _ rfl
    have g2 := hf 2 _ rfl
    have g3 := hf 3 _ rfl
    simp [cInt] at g0 g1 g2 g3
    obtain ⟨d0, e0, _, b0⟩ := DataW.trod_int Try.underlying3 g0
    obtain ⟨d1, e1, _, b1⟩ := DataW.trod_int Try.underlying3 g1
    obtain ⟨d2, e2, _, b2⟩ := DataW.trod_int Try.underlying3 g2
    obtain ⟨d3, e3, _, b3⟩ := DataW.trod_int Try.underlying3 g3
    simp at e0 e1 e2 e3
    subst e0 e1 e2 e3
    exact ⟨⟨d0, d1, d2, d3⟩, rfl, ⟨bounds_i64 b0, bounds_i64 b1, bounds_i64 b2, bounds_i64 b3⟩⟩
end Go.Proofs.Ytcmniehcabnmeab.Rc
