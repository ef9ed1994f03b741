/-
  How what is minted, handed to a law, reads.
-/
import Derived.Test.YtidkbnbnnhbbiaaMnt
import Derived.Deep.Slices
import Derived.Lib.SmallJoins
namespace Go.Proofs.Ytidkbnbnnhbbiaa
open Go.ChangeShapes Go.WideShapes Go.ChangeAt Go.RowKit Go.Deep
set_option linter.unusedVariables false
set_option maxRecDepth 100000

theorem cI10 : Try.prog.cellsOf 3 = 1 := by kernel_rfl
theorem cS10 : Try.prog.cellsOf 9 = 1 := by kernel_rfl
theorem cB10 : Try.prog.cellsOf 4 = 1 := by kernel_rfl
theorem cM10 : Try.prog.cellsOf 23 = 3 := by kernel_rfl

theorem open_minted {H : Type} {enc : TypeId × Value → H} {W : World} {spare : Nat → Bool} {held : Bool} {fuel : Nat} {cs : List Value} {x : DataW H × List MemPlace}
    (h : DataW.trod enc Try.prog W 0 spare held fuel 23 cs = some x) :
    ∃ (d : ByteArray) (t : Int) (n : Bool), cs = [.string d, .int .i64 t, .bool n] ∧ d.size ≤ maxLen ∧ (Lit.int .i64 t).wf = true := by
  obtain ⟨xs, n, _, _, hl, hlen, hf⟩ := DataW.trod_struct Try.underlying23 h
  rw [cM10] at hl
  match cs, hl, xs, hlen with
  | [c0, c1, c2], _, [y0, y1, y2], _ =>
    have g0 := hf 0 _ rfl
    have g1 := hf 1 _ rfl
    have g2 := hf 2 _ rfl
    simp [cI10, cS10, cB10] at g0 g1 g2
    obtain ⟨d, e0, _, hd⟩ := DataW.trod_string Try.underlying9 g0
    obtain ⟨t, e1, _, w1⟩ := DataW.trod_int Try.underlying3 g1
    obtain ⟨n, e2, _⟩ := DataW.trod_bool Try.underlying4 g2
    simp at e0 e1 e2
    subst e0 e1 e2
    exact ⟨d, t, n, rfl, hd, w1⟩
end Go.Proofs.Ytidkbnbnnhbbiaa
