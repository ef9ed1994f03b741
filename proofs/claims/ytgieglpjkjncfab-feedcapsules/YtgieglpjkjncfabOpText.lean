/-
  How a row of texts that is handed to a law reads.
-/
import Derived.Test.YtgieglpjkjncfabRcText
import Derived.Test.YtgieglpjkjncfabOre
namespace Go.Proofs.Ytgieglpjkjncfab.Rc
open Go.ChangeShapes Go.WideShapes Go.ChangeAt Go.RowKit Go.Deep
set_option linter.unusedVariables false
set_option maxRecDepth 100000

/-- a text fits -/
def okText (D : TextD) : Prop := D.size ≤ maxLen
theorem cText : Try.prog.cellsOf 9 = 1 := by kernel_rfl
theorem open_Text {H : Type} {enc : TypeId × Value → H} {W : World} {spare : Nat → Bool} {held : Bool} {fuel : Nat} {cs : List Value} {x : DataW H × List MemPlace}
    (h : DataW.trod enc Try.prog W 0 spare held fuel 9 cs = some x) : ∃ D : TextD, cs = [.string D] ∧ okText D := by
  obtain ⟨d0, e0, _, b0⟩ := DataW.trod_string Try.underlying9 h
  exact ⟨d0, e0, b0⟩
theorem open_TextS {H : Type} {enc : TypeId × Value → H} {W : World} {spare : Nat → Bool} {held : Bool} {fuel : Nat} {v : Value} {x : DataW H × List MemPlace}
    (h : DataW.trod enc Try.prog W 0 spare held fuel 22 [v] = some x) :
    ∃ (a : Option Addr) (cap : Nat) (L : List TextD), v = .slice a L.length cap ∧ L.length ≤ maxLen ∧ L.length ≤ cap ∧ (∀ i, i < L.length → okText (gt textK L i)) ∧ Rd textK W a L :=
  open_rows textK okText Try.underlying22 cText (fun h => open_Text h) h
end Go.Proofs.Ytgieglpjkjncfab.Rc
