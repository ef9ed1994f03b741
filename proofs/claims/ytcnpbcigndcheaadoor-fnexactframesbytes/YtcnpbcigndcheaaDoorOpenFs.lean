/-
  How a list of frames that is handed to a law reads.
-/
import Derived.Test.YtcnpbcigndcheaaDoorOpenF
import Derived.Test.YtcnpbcigndcheaaDoorFsl
namespace Go.Proofs.YtcnpbcigndcheaaDoor
open Go.ChangeShapes Go.WideShapes Go.ChangeAt Go.RowKit Go.Deep
set_option linter.unusedVariables false

instance : Inhabited FrD := ⟨⟨0, 0, 0, 0, false, ⟨#[]⟩, 0, fun _ => 0, fun _ => 0⟩⟩
theorem open_frames {H : Type} {enc : TypeId × Value → H} {W : World} {spare : Nat → Bool} {held : Bool} {fuel : Nat} {v : Value} {x : DataW H × List MemPlace}
    (h : DataW.trod enc Tryd.prog W 0 spare held fuel 22 [v] = some x) :
    ∃ (a : Option Addr) (N cap : Nat) (G : Nat → FrD), v = .slice a N cap ∧ N ≤ maxLen ∧ (∀ i, i < N → (G i).s.size ≤ maxLen ∧ (G i).n ≤ maxLen) ∧ Fa W a N G := by
  rcases open_slice Tryd.underlying22 h with ⟨hc, _⟩ | ⟨a, len, cap, m, n, D, Pl, hc, _, hl, hm, hmm, _, hx⟩
  · exact ⟨none, 0, 0, fun _ => default, by simpa using hc, by unfold maxLen; omega, fun i hi => by omega, Or.inl rfl⟩
  · have hlm : len ≤ m := by rw [hmm]; split <;> omega
    obtain ⟨b, off, spot⟩ := a
    rw [cF] at hx
    by_cases h0 : len = 0
    · exact ⟨some ⟨b, off, spot⟩, len, cap, fun _ => default, by simpa using hc, by omega, fun i hi => by omega, Or.inl h0⟩
    have hs : spot = none := by
      obtain ⟨cs', h1, h2⟩ := hx 0 (by omega)
      obtain ⟨_, hlen, hcell⟩ := World.cells?_some h1
      have h3 := hcell 0 (by omega)
      rw [List.getElem?_eq_getElem (by omega)] at h3
      have := World.cell?_spot h3
      simpa [Addr.add] using this
    subst hs
    have ad : ∀ j : Nat, (⟨b, off, none⟩ : Addr).add j = ⟨b, off + j, none⟩ := by intro j; unfold Addr.add; split <;> simp_all
    have each : ∀ i, i < len → ∃ D : FrD, (D.s.size ≤ maxLen ∧ D.n ≤ maxLen) ∧ ∃ ra cp, C7 W b (off + i * 7) D (.slice ra D.n cp) ∧ Ra W ra D.n cp D.F D.T := by
      intro i hi
      obtain ⟨cs', h1, h2⟩ := hx i (by omega)
      obtain ⟨_, hlen, hcell⟩ := World.cells?_some h1
      obtain ⟨k, a, b', c, fin, s, ra, nn, cp, F, T, rfl, hs, hn, hR, _⟩ := open_frame h2
      have e : ∀ j, j < 7 → W.cell? ⟨b, off + i * 7 + j, none⟩ = ([.int .i64 k, .int .i64 a, .int .i64 b', .int .i64 c, .bool fin, .string s, .slice ra nn cp] : List Value)[j]? := fun j hj => by
        have := hcell j hj
        rw [add_add, ad, ← Nat.add_assoc] at this
        exact this
      exact ⟨⟨k, a, b', c, fin, s, nn, F, T⟩, ⟨hs, hn⟩, ra, cp, ⟨e 0 (by omega), e 1 (by omega), e 2 (by omega), e 3 (by omega), e 4 (by omega), e 5 (by omega), e 6 (by omega)⟩, hR⟩
    obtain ⟨G, hG⟩ := choose_lt each
    exact ⟨some ⟨b, off, none⟩, len, cap, G, by simpa using hc, by omega, fun i hi => (hG i hi).1, Or.inr ⟨b, off, rfl, fun i hi => (hG i hi).2⟩⟩
end Go.Proofs.YtcnpbcigndcheaaDoor
