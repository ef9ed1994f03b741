/-
  How a laws.Carried that is handed to a law reads.
-/
import Derived.Test.YtgieglpjkjncfaaDoorCdw
import Derived.Test.YtgieglpjkjncfaaDoorOre
namespace Go.Proofs.YtgieglpjkjncfaaDoor.Rc
open Go.ChangeShapes Go.WideShapes Go.ChangeAt Go.RowKit Go.Deep
set_option linter.unusedVariables false
set_option maxRecDepth 100000

/-- its numbers and texts fit -/
def okCarried (D : CarriedD) : Prop := okI D.f0 ∧ okI D.f1 ∧ D.f2.size ≤ maxLen
theorem cStrK : Tryd.prog.cellsOf 9 = 1 := by kernel_rfl
theorem cCarried : Tryd.prog.cellsOf 31 = 3 := by kernel_rfl
theorem open_Carried {H : Type} {enc : TypeId × Value → H} {W : World} {spare : Nat → Bool} {held : Bool} {fuel : Nat} {cs : List Value} {x : DataW H × List MemPlace}
    (h : DataW.trod enc Tryd.prog W 0 spare held fuel 31 cs = some x) : ∃ D : CarriedD, cs = [.int .i64 D.f0, .int .i64 D.f1, .string D.f2] ∧ okCarried D := by
  obtain ⟨xs, n, _, _, hl, hlen, hf⟩ := DataW.trod_struct Tryd.underlying31 h
  rw [cCarried] at hl
  match cs, hl, xs, hlen with
  | [c0, c1, c2], _, [y0, y1, y2], _ =>
    have g0 := hf 0 _ rfl
    have g1 := hf 1 _ rfl
    have g2 := hf 2 _ rfl
    simp [cInt, cStrK] at g0 g1 g2
    obtain ⟨d0, e0, _, b0⟩ := DataW.trod_int Tryd.underlying3 g0
    obtain ⟨d1, e1, _, b1⟩ := DataW.trod_int Tryd.underlying3 g1
    obtain ⟨d2, e2, _, b2⟩ := DataW.trod_string Tryd.underlying9 g2
    simp at e0 e1 e2
    subst e0 e1 e2
    exact ⟨⟨d0, d1, d2⟩, rfl, ⟨bounds_i64 b0, bounds_i64 b1, b2⟩⟩
end Go.Proofs.YtgieglpjkjncfaaDoor.Rc
