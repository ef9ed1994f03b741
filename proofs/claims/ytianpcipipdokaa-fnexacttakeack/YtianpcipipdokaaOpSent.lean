/-
  How a laws.Sent that is handed to a law reads.
-/
import Derived.Test.YtianpcipipdokaaRcSent
import Derived.Test.YtianpcipipdokaaOre
namespace Go.Proofs.Ytianpcipipdokaa.Rc
open Go.ChangeShapes Go.WideShapes Go.ChangeAt Go.RowKit Go.Deep
set_option linter.unusedVariables false
set_option maxRecDepth 100000

/-- its numbers and texts fit -/
def okSent (D : SentD) : Prop := okI D.f0 ∧ okI D.f1 ∧ okI D.f2
theorem cSent : Try.prog.cellsOf 81 = 3 := by kernel_rfl
theorem open_Sent {H : Type} {enc : TypeId × Value → H} {W : World} {spare : Nat → Bool} {held : Bool} {fuel : Nat} {cs : List Value} {x : DataW H × List MemPlace}
    (h : DataW.trod enc Try.prog W 0 spare held fuel 81 cs = some x) : ∃ D : SentD, cs = [.int .i64 D.f0, .int .i64 D.f1, .int .i64 D.f2] ∧ okSent D := by
  obtain ⟨xs, n, _, _, hl, hlen, hf⟩ := DataW.trod_struct Try.underlying81 h
  rw [cSent] at hl
  match cs, hl, xs, hlen with
  | [c0, c1, c2], _, [y0, y1, y2], _ =>
    have g0 := hf 0 _ rfl
    have g1 := hf 1 _ rfl
    have g2 := hf 2 _ rfl
    simp [cInt] at g0 g1 g2
    obtain ⟨d0, e0, _, b0⟩ := DataW.trod_int Try.underlying3 g0
    obtain ⟨d1, e1, _, b1⟩ := DataW.trod_int Try.underlying3 g1
    obtain ⟨d2, e2, _, b2⟩ := DataW.trod_int Try.underlying3 g2
    simp at e0 e1 e2
    subst e0 e1 e2
    exact ⟨⟨d0, d1, d2⟩, rfl, ⟨bounds_i64 b0, bounds_i64 b1, bounds_i64 b2⟩⟩
theorem open_SentS {H : Type} {enc : TypeId × Value → H} {W : World} {spare : Nat → Bool} {held : Bool} {fuel : Nat} {v : Value} {x : DataW H × List MemPlace}
    (h : DataW.trod enc Try.prog W 0 spare held fuel 22 [v] = some x) :
    ∃ (a : Option Addr) (cap : Nat) (L : List SentD), v = .slice a L.length cap ∧ L.length ≤ maxLen ∧ L.length ≤ cap ∧ (∀ i, i < L.length → okSent (gt sentK L i)) ∧ Rd sentK W a L :=
  open_rows sentK okSent Try.underlying22 cSent (fun h => open_Sent h) h
end Go.Proofs.Ytianpcipipdokaa.Rc
