/-
  How a table that is handed to a law reads. How a balancer that is handed to a law reads.
-/
import Derived.Test.YtbabipaipbjlbaaTal
import Derived.Test.YtbabipaipbjlbaaFirstPacketWX
import Derived.Deep.SlicePairs
import Derived.Test.YtbabipaipbjlbaaBln
namespace Go.Proofs.Ytbabipaipbjlbaa
open Go.ChangeShapes Go.WideShapes Go.ChangeAt Go.RowKit Go.Deep
set_option linter.unusedVariables false
set_option maxRecDepth 100000

theorem cA8 : Try.prog.cellsOf 151 = 2 := by kernel_rfl
theorem cE8 : Try.prog.cellsOf 122 = 7 := by kernel_rfl
theorem cT8 : Try.prog.cellsOf 24 = 1 := by kernel_rfl
theorem cSA8 : Try.prog.cellsOf 120 = 1 := by kernel_rfl
theorem cSE8 : Try.prog.cellsOf 22 = 1 := by kernel_rfl

theorem open_alloc {H : Type} {enc : TypeId × Value → H} {W : World} {spare : Nat → Bool} {held : Bool} {fuel : Nat} {cs : List Value} {x : DataW H × List MemPlace}
    (h : DataW.trod enc Try.prog W 0 spare held fuel 151 cs = some x) :
    ∃ D : AlD, cs = [.string D.i, .string D.b] ∧ D.i.size ≤ maxLen ∧ D.b.size ≤ maxLen := by
  obtain ⟨xs, n, _, _, hl, hlen, hf⟩ := DataW.trod_struct Try.underlying151 h
  rw [cA8] at hl
  match cs, hl, xs, hlen with
  | [c0, c1], _, [y0, y1], _ =>
    have g0 := hf 0 _ rfl
    have g1 := hf 1 _ rfl
    simp [cS7] at g0 g1
    obtain ⟨s0, e0, _, h0⟩ := DataW.trod_string Try.underlying9 g0
    obtain ⟨s1, e1, _, h1⟩ := DataW.trod_string Try.underlying9 g1
    simp at e0 e1
    subst e0 e1
    exact ⟨⟨s0, s1⟩, rfl, h0, h1⟩
/-- a list out of a function -/
theorem list_of {α : Type} (d : α) (n : Nat) (f : Nat → α) : ∃ L : List α, L.length = n ∧ ∀ i, i < n → L.getD i d = f i :=
  ⟨(List.range n).map f, by simp, fun i hi => by simp [List.getD, hi]⟩
theorem open_allocs {H : Type} {enc : TypeId × Value → H} {W : World} {spare : Nat → Bool} {held : Bool} {fuel : Nat} {v : Value} {x : DataW H × List MemPlace}
    (h : DataW.trod enc Try.prog W 0 spare held fuel 120 [v] = some x) :
    ∃ (a : Option Addr) (cap : Nat) (L : List AlD), v = .slice a L.length cap ∧ L.length ≤ maxLen ∧ L.length ≤ cap ∧ (∀ i, i < L.length → (aA L i).i.size ≤ maxLen ∧ (aA L i).b.size ≤ maxLen) ∧ Aa W a L := by
  rcases open_slice Try.underlying120 h with ⟨hc, _⟩ | ⟨a, len, cap, m, n, D, Pl, hc, _, hl, hm, hmm, _, hx⟩
  · exact ⟨none, 0, [], by simpa using hc, Nat.zero_le _, Nat.zero_le _, fun i hi => absurd hi (Nat.not_lt_zero _), Or.inl rfl⟩
  · have hlm : len ≤ m := by rw [hmm]; split <;> omega
    obtain ⟨b, off, spot⟩ := a
    rw [cA8] at hx
    by_cases h0 : len = 0
    · subst h0
      exact ⟨some ⟨b, off, spot⟩, cap, [], by simpa using hc, Nat.zero_le _, Nat.zero_le _, fun i hi => absurd hi (Nat.not_lt_zero _), Or.inl rfl⟩
    have hs : spot = none := by
      obtain ⟨cs', h1, h2⟩ := hx 0 (by omega)
      obtain ⟨_, hlen, hcell⟩ := World.cells?_some h1
      have h3 := hcell 0 (by omega)
      rw [List.getElem?_eq_getElem (by omega)] at h3
      have := World.cell?_spot h3
      simpa [Addr.add] using this
    subst hs
    have ad : ∀ j : Nat, (⟨b, off, none⟩ : Addr).add j = ⟨b, off + j, none⟩ := by intro j; unfold Addr.add; split <;> simp_all
    have each : ∀ i, i < len → ∃ D : AlD, (D.i.size ≤ maxLen ∧ D.b.size ≤ maxLen) ∧ W.cell? ⟨b, off + i * 2, none⟩ = some (.string D.i) ∧ W.cell? ⟨b, off + i * 2 + 1, none⟩ = some (.string D.b) := by
      intro i hi
      obtain ⟨cs', h1, h2⟩ := hx i (by omega)
      obtain ⟨_, hlen, hcell⟩ := World.cells?_some h1
      obtain ⟨D, rfl, hs, hn⟩ := open_alloc h2
      have e : ∀ j, j < 2 → W.cell? ⟨b, off + i * 2 + j, none⟩ = ([.string D.i, .string D.b] : List Value)[j]? := fun j hj => by
        have := hcell j hj
        rw [add_add, ad, ← Nat.add_assoc] at this
        exact this
      exact ⟨D, ⟨hs, hn⟩, e 0 (by omega), e 1 (by omega)⟩
    obtain ⟨G, hG⟩ := @choose_lt AlD ⟨aD⟩ _ _ each
    obtain ⟨L, hL, hLG⟩ := list_of aD len G
    subst hL
    have hA : ∀ i, i < L.length → aA L i = G i := hLG
    refine ⟨some ⟨b, off, none⟩, cap, L, by simpa using hc, by omega, by omega, fun i hi => by rw [hA i hi]; exact (hG i hi).1, Or.inr ⟨b, off, rfl, ?_, fun i hi => by rw [hA i hi]; exact (hG i hi).2.1, fun i hi => by rw [hA i hi]; exact (hG i hi).2.2⟩⟩
    exact World.block_lt_of_cell? W _ (hG 0 (by omega)).2.1
theorem open_entry {H : Type} {enc : TypeId × Value → H} {W : World} {spare : Nat → Bool} {held : Bool} {fuel : Nat} {cs : List Value} {x : DataW H × List MemPlace}
    (h : DataW.trod enc Try.prog W 0 spare held fuel 122 cs = some x) :
    ∃ (D : EnD) (ra : Option Addr) (cap : Nat), cs = [.int .i64 D.sl, .int .i64 D.sv, .int .i64 D.nc, .string D.k, .bool D.t, .slice ra D.S.length cap, .int .i64 D.nx] ∧ D.S.length ≤ cap ∧ Aa W ra D.S ∧
      (D.k.size ≤ maxLen ∧ D.S.length ≤ maxLen ∧ ∀ j, j < D.S.length → (aA D.S j).i.size ≤ maxLen ∧ (aA D.S j).b.size ≤ maxLen) := by
  obtain ⟨xs, n, _, _, hl, hlen, hf⟩ := DataW.trod_struct Try.underlying122 h
  rw [cE8] at hl
  match cs, hl, xs, hlen with
  | [c0, c1, c2, c3, c4, c5, c6], _, [y0, y1, y2], _ =>
    have g0 := hf 0 _ rfl
    have g1 := hf 1 _ rfl
    have g2 := hf 2 _ rfl
    simp [cK7, cI7, cSA8] at g0 g1 g2
    obtain ⟨sl, sv, nc, k, t, e0, hk, _, _, _⟩ := open_config g0
    obtain ⟨a, cap, L, e1, hl1, hl2, hl3, hA⟩ := open_allocs g1
    obtain ⟨nx, e2, _, _⟩ := DataW.trod_int Try.underlying3 g2
    simp at e0 e2
    obtain ⟨rfl, rfl, rfl, rfl, rfl⟩ := e0
    subst e1 e2
    exact ⟨⟨sl, sv, nc, k, t, L, nx⟩, a, cap, rfl, hl2, hA, hk, hl1, hl3⟩
theorem open_entries {H : Type} {enc : TypeId × Value → H} {W : World} {spare : Nat → Bool} {held : Bool} {fuel : Nat} {v : Value} {x : DataW H × List MemPlace}
    (h : DataW.trod enc Try.prog W 0 spare held fuel 22 [v] = some x) :
    ∃ (a : Option Addr) (cap : Nat) (L : List EnD), v = .slice a L.length cap ∧ okE L ∧ Ea W a L := by
  rcases open_slice Try.underlying22 h with ⟨hc, _⟩ | ⟨a, len, cap, m, n, D, Pl, hc, _, hl, hm, hmm, _, hx⟩
  · exact ⟨none, 0, [], by simpa using hc, ⟨Nat.zero_le _, fun i hi => absurd hi (Nat.not_lt_zero _)⟩, Or.inl rfl⟩
  · have hlm : len ≤ m := by rw [hmm]; split <;> omega
    obtain ⟨b, off, spot⟩ := a
    rw [cE8] at hx
    by_cases h0 : len = 0
    · subst h0
      exact ⟨some ⟨b, off, spot⟩, cap, [], by simpa using hc, ⟨Nat.zero_le _, fun i hi => absurd hi (Nat.not_lt_zero _)⟩, Or.inl rfl⟩
    have hs : spot = none := by
      obtain ⟨cs', h1, h2⟩ := hx 0 (by omega)
      obtain ⟨_, hlen, hcell⟩ := World.cells?_some h1
      have h3 := hcell 0 (by omega)
      rw [List.getElem?_eq_getElem (by omega)] at h3
      have := World.cell?_spot h3
      simpa [Addr.add] using this
    subst hs
    have ad : ∀ j : Nat, (⟨b, off, none⟩ : Addr).add j = ⟨b, off + j, none⟩ := by intro j; unfold Addr.add; split <;> simp_all
    have each : ∀ i, i < len → ∃ D : EnD, (D.k.size ≤ maxLen ∧ D.S.length ≤ maxLen ∧ ∀ j, j < D.S.length → (aA D.S j).i.size ≤ maxLen ∧ (aA D.S j).b.size ≤ maxLen) ∧ ∃ ra cp, Ce W b (off + i * 7) D (.slice ra D.S.length cp) ∧ D.S.length ≤ cp ∧ Aa W ra D.S := by
      intro i hi
      obtain ⟨cs', h1, h2⟩ := hx i (by omega)
      obtain ⟨_, hlen, hcell⟩ := World.cells?_some h1
      obtain ⟨D, ra, cp, rfl, hcp, hA, hok⟩ := open_entry h2
      have e : ∀ j, j < 7 → W.cell? ⟨b, off + i * 7 + j, none⟩ = ([.int .i64 D.sl, .int .i64 D.sv, .int .i64 D.nc, .string D.k, .bool D.t, .slice ra D.S.length cp, .int .i64 D.nx] : List Value)[j]? := fun j hj => by
        have := hcell j hj
        rw [add_add, ad, ← Nat.add_assoc] at this
        exact this
      exact ⟨D, hok, ra, cp, ⟨e 0 (by omega), e 1 (by omega), e 2 (by omega), e 3 (by omega), e 4 (by omega), e 5 (by omega), e 6 (by omega)⟩, hcp, hA⟩
    obtain ⟨G, hG⟩ := @choose_lt EnD ⟨eD⟩ _ _ each
    obtain ⟨L, hL, hLG⟩ := list_of eD len G
    subst hL
    have hA : ∀ i, i < L.length → eA L i = G i := hLG
    exact ⟨some ⟨b, off, none⟩, cap, L, by simpa using hc, ⟨by omega, fun i hi => by rw [hA i hi]; exact (hG i hi).1⟩, Or.inr ⟨b, off, rfl, fun i hi => by rw [hA i hi]; exact (hG i hi).2⟩⟩
theorem open_table {H : Type} {enc : TypeId × Value → H} {W : World} {spare : Nat → Bool} {held : Bool} {fuel : Nat} {cs : List Value} {x : DataW H × List MemPlace}
    (h : DataW.trod enc Try.prog W 0 spare held fuel 24 cs = some x) :
    ∃ (a : Option Addr) (cap : Nat) (L : List EnD), cs = [.slice a L.length cap] ∧ okE L ∧ Ea W a L := by
  obtain ⟨xs, n, _, _, hl, hlen, hf⟩ := DataW.trod_struct Try.underlying24 h
  rw [cT8] at hl
  match cs, hl, xs, hlen with
  | [c0], _, [y0], _ =>
    have g0 := hf 0 _ rfl
    simp [cSE8] at g0
    obtain ⟨a, cap, L, e, h1, h2⟩ := open_entries g0
    exact ⟨a, cap, L, by rw [e], h1, h2⟩
end Go.Proofs.Ytbabipaipbjlbaa
namespace Go.Proofs.Ytbabipaipbjlbaa
open Go.ChangeShapes Go.WideShapes Go.ChangeAt Go.RowKit Go.Deep
set_option linter.unusedVariables false
set_option maxRecDepth 100000

theorem cBl : Try.prog.cellsOf 27 = 7 := by kernel_rfl
theorem cSt : Try.prog.cellsOf 25 = 1 := by kernel_rfl
theorem cBo : Try.prog.cellsOf 4 = 1 := by kernel_rfl
theorem open_balancer {H : Type} {enc : TypeId × Value → H} {W : World} {spare : Nat → Bool} {held : Bool} {fuel : Nat} {cs : List Value} {x : DataW H × List MemPlace}
    (h : DataW.trod enc Try.prog W 0 spare held fuel 27 cs = some x) :
    ∃ (D : BlD) (ta : Option Addr) (tc : Nat) (la : Option Addr) (lc : Nat) (ka : Option Addr) (kc : Nat), cs = blC D ta tc la lc ka kc ∧ okBl D ∧ Bl W ta la ka D := by
  obtain ⟨xs, n, _, _, hl, hlen, hf⟩ := DataW.trod_struct Try.underlying27 h
  rw [cBl] at hl
  match cs, hl, xs, hlen with
  | [c0, c1, c2, c3, c4, c5, c6], _, [y0, y1, y2, y3, y4, y5, y6], _ =>
    have g0 := hf 0 _ rfl
    have g1 := hf 1 _ rfl
    have g2 := hf 2 _ rfl
    have g3 := hf 3 _ rfl
    have g4 := hf 4 _ rfl
    have g5 := hf 5 _ rfl
    have g6 := hf 6 _ rfl
    simp [cT8, cSt, cI7, cBo] at g0 g1 g2 g3 g4 g5 g6
    obtain ⟨ta, tc, T, e0, hG, hE⟩ := open_table g0
    obtain ⟨la, lc, L, e1, hl1, hl2, hL⟩ := open_texts g1
    obtain ⟨sh, e2, _, _⟩ := DataW.trod_int Try.underlying3 g2
    obtain ⟨re, e3, _⟩ := DataW.trod_bool Try.underlying4 g3
    obtain ⟨ka, kc, K, e4, hk1, hk2, hK⟩ := open_texts g4
    obtain ⟨lf, e5, _, _⟩ := DataW.trod_int Try.underlying3 g5
    obtain ⟨ve, e6, _, _⟩ := DataW.trod_int Try.underlying3 g6
    simp at e0 e2 e3 e5 e6
    subst e0 e1 e2 e3 e4 e5 e6
    exact ⟨⟨T, L, sh, re, K, lf, ve⟩, ta, tc, la, lc, ka, kc, rfl, ⟨hG, ⟨hl1, hl2⟩, ⟨hk1, hk2⟩⟩, ⟨hE, hL, hK⟩⟩
end Go.Proofs.Ytbabipaipbjlbaa
