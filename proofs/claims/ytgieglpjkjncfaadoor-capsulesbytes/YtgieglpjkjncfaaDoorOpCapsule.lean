/-
  How a laws.Capsule that is handed to a law reads.
-/
import Derived.Test.YtgieglpjkjncfaaDoorRcCapsule
import Derived.Test.YtgieglpjkjncfaaDoorOre
namespace Go.Proofs.YtgieglpjkjncfaaDoor.Rc
open Go.ChangeShapes Go.WideShapes Go.ChangeAt Go.RowKit Go.Deep
set_option linter.unusedVariables false
set_option maxRecDepth 100000

/-- its numbers and texts fit -/
def okCapsule (D : CapsuleD) : Prop := okI D.f0 ∧ D.f1.size ≤ maxLen
theorem cStr : Tryd.prog.cellsOf 9 = 1 := by kernel_rfl
theorem cCapsule : Tryd.prog.cellsOf 39 = 2 := by kernel_rfl
theorem open_Capsule {H : Type} {enc : TypeId × Value → H} {W : World} {spare : Nat → Bool} {held : Bool} {fuel : Nat} {cs : List Value} {x : DataW H × List MemPlace}
    (h : DataW.trod enc Tryd.prog W 0 spare held fuel 39 cs = some x) : ∃ D : CapsuleD, cs = [.int .i64 D.f0, .string D.f1] ∧ okCapsule D := by
  obtain ⟨xs, n, _, _, hl, hlen, hf⟩ := DataW.trod_struct Tryd.underlying39 h
  rw [cCapsule] at hl
  match cs, hl, xs, hlen with
  | [c0, c1], _, [y0, y1], _ =>
    have g0 := hf 0 _ rfl
    have g1 := hf 1 _ rfl
    simp [cInt, cStr] at g0 g1
    obtain ⟨d0, e0, _, b0⟩ := DataW.trod_int Tryd.underlying3 g0
    obtain ⟨d1, e1, _, b1⟩ := DataW.trod_string Tryd.underlying9 g1
    simp at e0 e1
    subst e0 e1
    exact ⟨⟨d0, d1⟩, rfl, ⟨bounds_i64 b0, b1⟩⟩
theorem open_CapsuleS {H : Type} {enc : TypeId × Value → H} {W : World} {spare : Nat → Bool} {held : Bool} {fuel : Nat} {v : Value} {x : DataW H × List MemPlace}
    (h : DataW.trod enc Tryd.prog W 0 spare held fuel 22 [v] = some x) :
    ∃ (a : Option Addr) (cap : Nat) (L : List CapsuleD), v = .slice a L.length cap ∧ L.length ≤ maxLen ∧ L.length ≤ cap ∧ (∀ i, i < L.length → okCapsule (gt capsuleK L i)) ∧ Rd capsuleK W a L :=
  open_rows capsuleK okCapsule Tryd.underlying22 cCapsule (fun h => open_Capsule h) h
end Go.Proofs.YtgieglpjkjncfaaDoor.Rc
