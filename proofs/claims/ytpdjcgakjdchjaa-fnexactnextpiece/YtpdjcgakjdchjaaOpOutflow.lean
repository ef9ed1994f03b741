/-
  How a laws.Outflow that is handed to a law reads.
-/
import Derived.Test.YtpdjcgakjdchjaaOfw
import Derived.Test.YtpdjcgakjdchjaaOre
namespace Go.Proofs.Ytpdjcgakjdchjaa.Rc
open Go.ChangeShapes Go.WideShapes Go.ChangeAt Go.RowKit Go.Deep
set_option linter.unusedVariables false
set_option maxRecDepth 100000

/-- its numbers and texts fit -/
def okOutflow (D : OutflowD) : Prop := okI D.f0 ∧ okI D.f1 ∧ D.f2.size ≤ maxLen
theorem cStr : Try.prog.cellsOf 9 = 1 := by kernel_rfl
theorem cOutflow : Try.prog.cellsOf 31 = 4 := by kernel_rfl
theorem open_Outflow {H : Type} {enc : TypeId × Value → H} {W : World} {spare : Nat → Bool} {held : Bool} {fuel : Nat} {cs : List Value} {x : DataW H × List MemPlace}
    (h : DataW.trod enc Try.prog W 0 spare held fuel 31 cs = some x) : ∃ D : OutflowD, cs = [.int .i64 D.f0, .int .i64 D.f1, .string D.f2, .bool D.f3] ∧ okOutflow D := by
  obtain ⟨xs, n, _, _, hl, hlen, hf⟩ := DataW.trod_struct Try.underlying31 h
  rw [cOutflow] at hl
  match cs, hl, xs, hlen with
  | [c0, c1, c2, c3], _, [y0, y1, y2, y3], _ =>
    have g0 := hf 0 _ rfl
    have g1 := hf 1 _ rfl
    have g2 := hf 2 _ rfl
    have g3 := hf 3 _ rfl
    simp [cBool, cInt, cStr] at g0 g1 g2 g3
    obtain ⟨d0, e0, _, b0⟩ := DataW.trod_int Try.underlying3 g0
    obtain ⟨d1, e1, _, b1⟩ := DataW.trod_int Try.underlying3 g1
    obtain ⟨d2, e2, _, b2⟩ := DataW.trod_string Try.underlying9 g2
    obtain ⟨d3, e3, _⟩ := DataW.trod_bool Try.underlying4 g3
    simp at e0 e1 e2 e3
    subst e0 e1 e2 e3
    exact ⟨⟨d0, d1, d2, d3⟩, rfl, ⟨bounds_i64 b0, bounds_i64 b1, b2⟩⟩
end Go.Proofs.Ytpdjcgakjdchjaa.Rc
