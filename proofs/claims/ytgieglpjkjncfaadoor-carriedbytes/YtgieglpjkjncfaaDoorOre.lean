/-
  How rows of records that are handed to a law read.
-/
import Derived.Test.YtgieglpjkjncfaaDoorRcs
import Derived.Deep.Slices
import Derived.Deep.SlicePairs
namespace Go.Proofs.YtgieglpjkjncfaaDoor.Rc
open Go.ChangeShapes Go.WideShapes Go.ChangeAt Go.RowKit Go.Deep
set_option linter.unusedVariables false
set_option maxRecDepth 100000

/-- a number that fits -/
def okI (n : Int) : Prop := -9223372036854775808 ≤ n ∧ n ≤ 9223372036854775807
theorem cInt : Tryd.prog.cellsOf 3 = 1 := by kernel_rfl
theorem cBool : Tryd.prog.cellsOf 4 = 1 := by kernel_rfl
theorem open_rows {α : Type} (K : Kd α) (P : α → Prop) {T S : TypeId} (hS : Tryd.prog.underlying S = some (.slice T)) (hcT : Tryd.prog.cellsOf T = K.m)
    {H : Type} {enc : TypeId × Value → H} {W : World} {spare : Nat → Bool} {held : Bool}
    (one : ∀ {fuel : Nat} {cs : List Value} {x : DataW H × List MemPlace}, DataW.trod enc Tryd.prog W 0 spare held fuel T cs = some x → ∃ D : α, cs = K.f D ∧ P D)
    {fuel : Nat} {v : Value} {x : DataW H × List MemPlace} (h : DataW.trod enc Tryd.prog W 0 spare held fuel S [v] = some x) :
    ∃ (a : Option Addr) (cap : Nat) (L : List α), v = .slice a L.length cap ∧ L.length ≤ maxLen ∧ L.length ≤ cap ∧ (∀ i, i < L.length → P (gt K L i)) ∧ Rd K W a L := by
  have hpos := K.pos
  rcases open_slice hS h with ⟨hc, _⟩ | ⟨a, len, cap, m, n, D, Pl, hc, _, hl, hm, hmm, _, hx⟩
  · exact ⟨none, 0, [], by simpa using hc, Nat.zero_le _, Nat.zero_le _, fun i hi => absurd hi (Nat.not_lt_zero _), Or.inl rfl⟩
  · have hlm : len ≤ m := by rw [hmm]; split <;> omega
    obtain ⟨b, off, spot⟩ := a
    rw [hcT] at hx
    by_cases h0 : len = 0
    · subst h0
      exact ⟨some ⟨b, off, spot⟩, cap, [], by simpa using hc, Nat.zero_le _, Nat.zero_le _, fun i hi => absurd hi (Nat.not_lt_zero _), Or.inl rfl⟩
    have hs : spot = none := by
      obtain ⟨cs', h1, h2⟩ := hx 0 (by omega)
      obtain ⟨_, hlen, hcell⟩ := World.cells?_some h1
      have h3 := hcell 0 (by omega)
      rw [List.getElem?_eq_getElem (by omega)] at h3
      have := World.cell?_spot h3
      simpa [Addr.add] using this
    subst hs
    have ad : ∀ j : Nat, (⟨b, off, none⟩ : Addr).add j = ⟨b, off + j, none⟩ := by intro j; unfold Addr.add; split <;> simp_all
    have each : ∀ i, i < len → ∃ D : α, P D ∧ ∀ j, j < K.m → W.cell? ⟨b, off + (i * K.m + j), none⟩ = (K.f D)[j]? := by
      intro i hi
      obtain ⟨cs', h1, h2⟩ := hx i (by omega)
      obtain ⟨_, hlen, hcell⟩ := World.cells?_some h1
      obtain ⟨D, rfl, hD⟩ := one h2
      refine ⟨D, hD, fun j hj => ?_⟩
      have := hcell j hj
      rw [add_add, ad] at this
      exact this
    obtain ⟨G, hG⟩ := @choose_lt α ⟨K.d⟩ _ _ each
    obtain ⟨L, hL, hLG⟩ := list_of K.d len G
    subst hL
    have hA : ∀ i, i < L.length → gt K L i = G i := hLG
    have hcells : ∀ q, q < L.length * K.m → W.cell? ⟨b, off + q, none⟩ = some (cl K L q) := fun q hq => by
      have hk : q / K.m < L.length := Nat.div_lt_of_lt_mul (by rw [Nat.mul_comm]; exact hq)
      have hj : q % K.m < K.m := Nat.mod_lt _ K.pos
      have e : q / K.m * K.m + q % K.m = q := by rw [Nat.mul_comm]; exact Nat.div_add_mod q K.m
      have h1 := (hG _ hk).2 _ hj
      rw [e] at h1
      have h2 : q % K.m < (K.f (G (q / K.m))).length := by rw [K.len]; exact hj
      rw [h1]
      unfold cl
      rw [hA _ hk, List.getD, List.getElem?_eq_getElem h2]
      rfl
    refine ⟨some ⟨b, off, none⟩, cap, L, by simpa using hc, by omega, by omega, fun i hi => by rw [hA i hi]; exact (hG i hi).1, Or.inr ⟨b, off, rfl, ?_, hcells⟩⟩
    exact World.block_lt_of_cell? W _ (hcells 0 (Nat.mul_pos (by omega) K.pos))
end Go.Proofs.YtgieglpjkjncfaaDoor.Rc
