/-
  How bytes that are handed to a law read.
-/
import Derived.Test.YtagnkelpdgpigaaCur
import Derived.SizedLaws
import Derived.Deep.Slices
import Derived.Lib.SmallJoins
namespace Go.Proofs.Ytagnkelpdgpigaa
open Go.ChangeShapes Go.WideShapes Go.ChangeAt Go.RowKit
set_option linter.unusedVariables false

theorem cU8 : Try.prog.cellsOf 5 = 1 := by kernel_rfl
theorem bU8 : Try.prog.bytesOf 5 = 1 := by kernel_rfl
theorem open_bytes {H : Type} {enc : TypeId × Value → H} {W : World} {spare : Nat → Bool} {held : Bool} {fuel : Nat} {v : Value} {x : DataW H × List MemPlace}
    (h : DataW.trod enc Try.prog W 0 spare held fuel 22 [v] = some x) :
    ∃ (a : Option Addr) (N cap : Nat), v = .slice a N cap ∧ N ≤ maxLen ∧ Cd W a N ∧ (N = 0 ∨ ∃ elems spare, x.1 = .slice elems spare ∧ elems.length = N) := by
  rcases Go.Deep.open_slice1 Try.underlying22 cU8 h with ⟨hc, _⟩ | ⟨a, len, cap, m, n, V, D, Pl, hc, _, hl, hm, hmm, hx, he⟩
  · exact ⟨none, 0, 0, by simpa using hc, by unfold maxLen; omega, Or.inl rfl, Or.inl rfl⟩
  · have hlm : len ≤ m := by rw [hmm]; split <;> omega
    refine ⟨some a, len, cap, by simpa using hc, by omega, ?_, Or.inr ⟨_, _, by rw [hx], by simp⟩⟩
    by_cases h0 : len = 0
    · exact Or.inl h0
    obtain ⟨b, off, spot⟩ := a
    have hs : spot = none := by
      have := World.cell?_spot (he 0 (by omega)).1
      simpa [Addr.add] using this
    subst hs
    have ad : ∀ j : Nat, (⟨b, off, none⟩ : Addr).add j = ⟨b, off + j, none⟩ := by intro j; unfold Addr.add; split <;> simp_all
    refine Or.inr ⟨b, off, rfl, ?_, fun i hi => ?_⟩
    · have := World.block_lt_of_cell? W _ (he 0 (by omega)).1
      simpa [ad] using this
    · obtain ⟨h1, h2⟩ := he i (by omega)
      obtain ⟨y, e0, _, w0⟩ := DataW.trod_int Try.underlying5 h2
      rw [ad, show V i = .int .u8 y by simpa using e0] at h1
      have hy := bounds_u8 w0
      obtain ⟨z, rfl⟩ := Int.eq_ofNat_of_zero_le hy.1
      exact ⟨z, by omega, h1⟩
end Go.Proofs.Ytagnkelpdgpigaa
