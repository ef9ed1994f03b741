/-
  How a list of words that is handed to a law reads.
-/
import Derived.Test.YtcedecmapgfkhaaDoorUls
import Derived.Deep.Slices
import Derived.Lib.SmallJoins
namespace Go.Proofs.YtcedecmapgfkhaaDoor
open Go.ChangeShapes Go.WideShapes Go.ChangeAt Go.RowKit Go.Deep
set_option linter.unusedVariables false

theorem cU32 : Tryd.prog.cellsOf 27 = 1 := by kernel_rfl
theorem open_words {H : Type} {enc : TypeId × Value → H} {W : World} {spare : Nat → Bool} {held : Bool} {fuel : Nat} {v : Value} {x : DataW H × List MemPlace}
    (h : DataW.trod enc Tryd.prog W 0 spare held fuel 28 [v] = some x) : ∃ (a : Option Addr) (n cap : Nat) (f : Nat → Nat), v = .slice a n cap ∧ n ≤ maxLen ∧ (∀ i, f i < 4294967296) ∧ Ua W a n f := by
  rcases open_slice1 Tryd.underlying28 cU32 h with ⟨hc, _⟩ | ⟨a, len, cap, m, n, V, D, P, hc, _, hl, hm, hmm, _, hx⟩
  · exact ⟨none, 0, 0, fun _ => 0, by simpa using hc, by unfold maxLen; omega, fun i => by show (0 : Nat) < _; omega, Or.inl rfl⟩
  · refine ⟨some a, len, cap, fun i => (intOf (V i)).toNat % 4294967296, by simpa using hc, by omega, fun i => Nat.mod_lt _ (by omega), ?_⟩
    by_cases h0 : len = 0
    · exact Or.inl h0
    · right
      have hlm : len ≤ m := by rw [hmm]; split <;> omega
      obtain ⟨b, off, spot⟩ := a
      have hs : spot = none := by
        have h1 := (hx 0 (by omega)).1
        have := World.cell?_spot h1
        simpa [Addr.add] using this
      subst hs
      have key : ∀ i, i < len → ∃ f : Int, V i = .int .u32 f ∧ (0 ≤ f ∧ f ≤ 4294967295) := by
        intro i hi
        obtain ⟨_, q0⟩ := hx i (by omega)
        obtain ⟨f, e0, _, w0⟩ := DataW.trod_int Tryd.underlying27 q0
        exact ⟨f, by simpa using e0, by simpa [Lit.wf, IntKind.min, IntKind.max, IntKind.signed, IntKind.bits] using w0⟩
      have ad : ∀ j : Nat, (⟨b, off, none⟩ : Addr).add j = ⟨b, off + j, none⟩ := by intro j; unfold Addr.add; split <;> simp_all
      refine ⟨b, off, rfl, ?_, ?_⟩
      · intro i hi
        obtain ⟨f, e0, b0⟩ := key i hi
        have h1 := (hx i (by omega)).1
        rw [ad, e0] at h1
        simp only [e0, intOf]
        rw [h1]
        congr 2
        omega
      · have h1 := (hx 0 (by omega)).1
        have := World.block_lt_of_cell? W _ h1
        simpa [ad] using this
end Go.Proofs.YtcedecmapgfkhaaDoor
