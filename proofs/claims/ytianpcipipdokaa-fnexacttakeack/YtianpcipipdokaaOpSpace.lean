/-
  How a space that is handed to a law reads.
-/
import Derived.Test.YtianpcipipdokaaOpSent
import Derived.Test.YtianpcipipdokaaOpRtt
import Derived.Test.YtianpcipipdokaaSpc
namespace Go.Proofs.Ytianpcipipdokaa.Rc
open Go.ChangeShapes Go.WideShapes Go.ChangeAt Go.RowKit Go.Deep
set_option linter.unusedVariables false
set_option maxRecDepth 100000

/-- its numbers fit -/
def okSpace (D : SpaceD) : Prop := okI D.lg ∧ D.S.length ≤ maxLen ∧ (∀ i, i < D.S.length → okSent (gt sentK D.S i)) ∧ okRtt D.r
theorem cSpace : Try.prog.cellsOf 26 = 7 := by kernel_rfl
theorem cSentS : Try.prog.cellsOf 22 = 1 := by kernel_rfl
theorem open_Space {H : Type} {enc : TypeId × Value → H} {W : World} {spare : Nat → Bool} {held : Bool} {fuel : Nat} {cs : List Value} {x : DataW H × List MemPlace}
    (h : DataW.trod enc Try.prog W 0 spare held fuel 26 cs = some x) : ∃ (D : SpaceD) (a : Option Addr) (c : Nat), cs = spaceC D a c ∧ okSpace D ∧ RdSpace W a D := by
  obtain ⟨xs, n, _, _, hl, hlen, hf⟩ := DataW.trod_struct Try.underlying26 h
  rw [cSpace] at hl
  match cs, hl, xs, hlen with
  | [c0, c1, c2, c3, c4, c5, c6], _, [y0, y1, y2], _ =>
    have g0 := hf 0 _ rfl
    have g1 := hf 1 _ rfl
    have g2 := hf 2 _ rfl
    simp [cInt, cSentS, cRtt] at g0 g1 g2
    obtain ⟨lg, e0, _, b0⟩ := DataW.trod_int Try.underlying3 g0
    obtain ⟨a, c, L, e1, m1, _, o1, r1⟩ := open_SentS g1
    obtain ⟨R, e2, o2⟩ := open_Rtt g2
    simp at e0 e2
    subst e0 e1
    obtain ⟨rfl, rfl, rfl, rfl, rfl⟩ := e2
    exact ⟨⟨lg, L, R⟩, a, c, rfl, ⟨bounds_i64 b0, m1, o1, o2⟩, r1⟩
end Go.Proofs.Ytianpcipipdokaa.Rc
