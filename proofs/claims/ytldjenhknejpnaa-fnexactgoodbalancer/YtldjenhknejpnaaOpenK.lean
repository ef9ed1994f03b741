/-
  How a config that is handed to a law reads.
-/
import Derived.Test.YtldjenhknejpnaaCfg
import Derived.Deep.Slices
import Derived.Lib.SmallJoins
namespace Go.Proofs.Ytldjenhknejpnaa
open Go.ChangeShapes Go.WideShapes Go.ChangeAt Go.RowKit Go.Deep
set_option linter.unusedVariables false
set_option maxRecDepth 100000

theorem cI7 : Try.prog.cellsOf 3 = 1 := by kernel_rfl
theorem cS7 : Try.prog.cellsOf 9 = 1 := by kernel_rfl
theorem cB7 : Try.prog.cellsOf 4 = 1 := by kernel_rfl
theorem cK7 : Try.prog.cellsOf 91 = 5 := by kernel_rfl

theorem open_config {H : Type} {enc : TypeId × Value → H} {W : World} {spare : Nat → Bool} {held : Bool} {fuel : Nat} {cs : List Value} {x : DataW H × List MemPlace}
    (h : DataW.trod enc Try.prog W 0 spare held fuel 91 cs = some x) :
    ∃ (sl sv nc : Int) (k : ByteArray) (t : Bool), cs = [.int .i64 sl, .int .i64 sv, .int .i64 nc, .string k, .bool t] ∧ k.size ≤ maxLen ∧
      (Lit.int .i64 sl).wf = true ∧ (Lit.int .i64 sv).wf = true ∧ (Lit.int .i64 nc).wf = true := by
  obtain ⟨xs, n, _, _, hl, hlen, hf⟩ := DataW.trod_struct Try.underlying91 h
  rw [cK7] at hl
  match cs, hl, xs, hlen with
  | [c0, c1, c2, c3, c4], _, [y0, y1, y2, y3, y4], _ =>
    have g0 := hf 0 _ rfl
    have g1 := hf 1 _ rfl
    have g2 := hf 2 _ rfl
    have g3 := hf 3 _ rfl
    have g4 := hf 4 _ rfl
    simp [cI7, cS7, cB7] at g0 g1 g2 g3 g4
    obtain ⟨sl, e0, _, w0⟩ := DataW.trod_int Try.underlying3 g0
    obtain ⟨sv, e1, _, w1⟩ := DataW.trod_int Try.underlying3 g1
    obtain ⟨nc, e2, _, w2⟩ := DataW.trod_int Try.underlying3 g2
    obtain ⟨k, e3, _, hk⟩ := DataW.trod_string Try.underlying9 g3
    obtain ⟨t, e4, _⟩ := DataW.trod_bool Try.underlying4 g4
    simp at e0 e1 e2 e3 e4
    subst e0 e1 e2 e3 e4
    exact ⟨sl, sv, nc, k, t, rfl, hk, w0, w1, w2⟩
end Go.Proofs.Ytldjenhknejpnaa
