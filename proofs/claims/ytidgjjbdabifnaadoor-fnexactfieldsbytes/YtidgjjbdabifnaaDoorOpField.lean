/-
  How a laws.Field that is handed to a law reads.
-/
import Derived.Test.YtidgjjbdabifnaaDoorRcField
import Derived.Test.YtidgjjbdabifnaaDoorOre
namespace Go.Proofs.YtidgjjbdabifnaaDoor.Rc
open Go.ChangeShapes Go.WideShapes Go.ChangeAt Go.RowKit Go.Deep
set_option linter.unusedVariables false
set_option maxRecDepth 100000

/-- its numbers and texts fit -/
def okField (D : FieldD) : Prop := D.f0.size ≤ maxLen ∧ D.f1.size ≤ maxLen
theorem cStr : Tryd.prog.cellsOf 9 = 1 := by kernel_rfl
theorem cField : Tryd.prog.cellsOf 28 = 2 := by kernel_rfl
theorem open_Field {H : Type} {enc : TypeId × Value → H} {W : World} {spare : Nat → Bool} {held : Bool} {fuel : Nat} {cs : List Value} {x : DataW H × List MemPlace}
    (h : DataW.trod enc Tryd.prog W 0 spare held fuel 28 cs = some x) : ∃ D : FieldD, cs = [.string D.f0, .string D.f1] ∧ okField D := by
  obtain ⟨xs, n, _, _, hl, hlen, hf⟩ := DataW.trod_struct Tryd.underlying28 h
  rw [cField] at hl
  match cs, hl, xs, hlen with
  | [c0, c1], _, [y0, y1], _ =>
    have g0 := hf 0 _ rfl
    have g1 := hf 1 _ rfl
    simp [cStr] at g0 g1
    obtain ⟨d0, e0, _, b0⟩ := DataW.trod_string Tryd.underlying9 g0
    obtain ⟨d1, e1, _, b1⟩ := DataW.trod_string Tryd.underlying9 g1
    simp at e0 e1
    subst e0 e1
    exact ⟨⟨d0, d1⟩, rfl, ⟨b0, b1⟩⟩
theorem open_FieldS {H : Type} {enc : TypeId × Value → H} {W : World} {spare : Nat → Bool} {held : Bool} {fuel : Nat} {v : Value} {x : DataW H × List MemPlace}
    (h : DataW.trod enc Tryd.prog W 0 spare held fuel 34 [v] = some x) :
    ∃ (a : Option Addr) (cap : Nat) (L : List FieldD), v = .slice a L.length cap ∧ L.length ≤ maxLen ∧ L.length ≤ cap ∧ (∀ i, i < L.length → okField (gt fieldK L i)) ∧ Rd fieldK W a L :=
  open_rows fieldK okField Tryd.underlying34 cField (fun h => open_Field h) h
end Go.Proofs.YtidgjjbdabifnaaDoor.Rc
