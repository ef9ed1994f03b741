/-
  How a laws.Range that is handed to a law reads.
-/
import Derived.Test.YtenfjcdkabeilaaRcRange
import Derived.Test.YtenfjcdkabeilaaOre
namespace Go.Proofs.Ytenfjcdkabeilaa.Rc
open Go.ChangeShapes Go.WideShapes Go.ChangeAt Go.RowKit Go.Deep
set_option linter.unusedVariables false
set_option maxRecDepth 100000

/-- its numbers and texts fit -/
def okRange (D : RangeD) : Prop := okI D.f0 ∧ okI D.f1
theorem cRange : Try.prog.cellsOf 35 = 2 := by kernel_rfl
theorem open_Range {H : Type} {enc : TypeId × Value → H} {W : World} {spare : Nat → Bool} {held : Bool} {fuel : Nat} {cs : List Value} {x : DataW H × List MemPlace}
    (h : DataW.trod enc Try.prog W 0 spare held fuel 35 cs = some x) : ∃ D : RangeD, cs = [.int .i64 D.f0, .int .i64 D.f1] ∧ okRange D := by
  obtain ⟨xs, n, _, _, hl, hlen, hf⟩ := DataW.trod_struct Try.underlying35 h
  rw [cRange] at hl
  match cs, hl, xs, hlen with
  | [c0, c1], _, [y0, y1], _ =>
    have g0 := hf 0 _ rfl
    have g1 := hf 1 _ rfl
    simp [cInt] at g0 g1
    obtain ⟨d0, e0, _, b0⟩ := DataW.trod_int Try.underlying3 g0
    obtain ⟨d1, e1, _, b1⟩ := DataW.trod_int Try.underlying3 g1
    simp at e0 e1
    subst e0 e1
    exact ⟨⟨d0, d1⟩, rfl, ⟨bounds_i64 b0, bounds_i64 b1⟩⟩
theorem open_RangeS {H : Type} {enc : TypeId × Value → H} {W : World} {spare : Nat → Bool} {held : Bool} {fuel : Nat} {v : Value} {x : DataW H × List MemPlace}
    (h : DataW.trod enc Try.prog W 0 spare held fuel 22 [v] = some x) :
    ∃ (a : Option Addr) (cap : Nat) (L : List RangeD), v = .slice a L.length cap ∧ L.length ≤ maxLen ∧ L.length ≤ cap ∧ (∀ i, i < L.length → okRange (gt rangeK L i)) ∧ Rd rangeK W a L :=
  open_rows rangeK okRange Try.underlying22 cRange (fun h => open_Range h) h
end Go.Proofs.Ytenfjcdkabeilaa.Rc
