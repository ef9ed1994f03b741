/-
  How a header, and a list of numbers, that is handed to a law reads.
-/
import Derived.Test.YtgfjkdkapafndaaDoorIntsX
import Derived.Deep.Slices
import Derived.Lib.SmallJoins
namespace Go.Proofs.YtgfjkdkapafndaaDoor
open Go.ChangeShapes Go.WideShapes Go.ChangeAt Go.RowKit Go.Deep
set_option linter.unusedVariables false
set_option maxRecDepth 100000

theorem cI : Tryd.prog.cellsOf 3 = 1 := by kernel_rfl
theorem cS : Tryd.prog.cellsOf 9 = 1 := by kernel_rfl
theorem cIs : Tryd.prog.cellsOf 22 = 1 := by kernel_rfl
theorem cH : Tryd.prog.cellsOf 24 = 8 := by kernel_rfl

theorem open_ints {H : Type} {enc : TypeId × Value → H} {W : World} {spare : Nat → Bool} {held : Bool} {fuel : Nat} {v : Value} {x : DataW H × List MemPlace}
    (h : DataW.trod enc Tryd.prog W 0 spare held fuel 22 [v] = some x) : ∃ (a : Option Addr) (n cap : Nat) (V : Nat → Int), v = .slice a n cap ∧ n ≤ maxLen ∧ Ia W a n cap V := by
  rcases open_slice1 Tryd.underlying22 cI h with ⟨hc, _⟩ | ⟨a, len, cap, m, n, V, D, P, hc, _, hl, hm, hmm, _, hx⟩
  · exact ⟨none, 0, 0, fun _ => 0, by simpa using hc, by unfold maxLen; omega, Or.inl rfl⟩
  · refine ⟨some a, len, cap, fun i => intOf (V i), by simpa using hc, by omega, ?_⟩
    by_cases h0 : len = 0
    · exact Or.inl h0
    · right
      have hlm : len ≤ m := by rw [hmm]; split <;> omega
      obtain ⟨b, off, spot⟩ := a
      have hs : spot = none := by
        have h1 := (hx 0 (by omega)).1
        have := World.cell?_spot h1
        simpa [Addr.add] using this
      subst hs
      have key : ∀ i, i < len → ∃ f : Int, V i = .int .i64 f ∧ (-9223372036854775808 ≤ f ∧ f ≤ 9223372036854775807) := by
        intro i hi
        obtain ⟨_, q0⟩ := hx i (by omega)
        obtain ⟨f, e0, _, w0⟩ := DataW.trod_int Tryd.underlying3 q0
        exact ⟨f, by simpa using e0, bounds_i64 w0⟩
      have ad : ∀ j : Nat, (⟨b, off, none⟩ : Addr).add j = ⟨b, off + j, none⟩ := by intro j; unfold Addr.add; split <;> simp_all
      refine ⟨b, off, rfl, Or.inr ?_, ?_, ?_⟩
      · have h1 := (hx 0 (by omega)).1
        have := World.block_lt_of_cell? W _ h1
        simpa [ad] using this
      · intro i hi
        obtain ⟨f, e0, _⟩ := key i hi
        have h1 := (hx i (by omega)).1
        rw [ad, e0] at h1
        simp only [e0, intOf]
        exact h1
      · intro i hi
        obtain ⟨f, e0, b0⟩ := key i hi
        simp only [e0, intOf]
        exact b0

theorem open_header {H : Type} {enc : TypeId × Value → H} {W : World} {spare : Nat → Bool} {held : Bool} {fuel : Nat} {cs : List Value} {x : DataW H × List MemPlace}
    (h : DataW.trod enc Tryd.prog W 0 spare held fuel 24 cs = some x) :
    ∃ (f bi ve : Int) (d s t p : ByteArray) (ra : Option Addr) (n cap : Nat) (V : Nat → Int), cs = [.int .i64 f, .int .i64 bi, .int .i64 ve, .string d, .string s, .string t, .string p, .slice ra n cap] ∧ d.size ≤ maxLen ∧ s.size ≤ maxLen ∧ t.size ≤ maxLen ∧ p.size ≤ maxLen ∧ n ≤ maxLen ∧ Ia W ra n cap V ∧
      (Lit.int .i64 f).wf = true ∧ (Lit.int .i64 bi).wf = true ∧ (Lit.int .i64 ve).wf = true := by
  obtain ⟨xs, n, _, _, hl, hlen, hf⟩ := DataW.trod_struct Tryd.underlying24 h
  rw [cH] at hl
  match cs, hl, xs, hlen with
  | [c0, c1, c2, c3, c4, c5, c6, c7], _, [y0, y1, y2, y3, y4, y5, y6, y7], _ =>
    have g0 := hf 0 _ rfl
    have g1 := hf 1 _ rfl
    have g2 := hf 2 _ rfl
    have g3 := hf 3 _ rfl
    have g4 := hf 4 _ rfl
    have g5 := hf 5 _ rfl
    have g6 := hf 6 _ rfl
    have g7 := hf 7 _ rfl
    simp [cI, cS, cIs] at g0 g1 g2 g3 g4 g5 g6 g7
    obtain ⟨f, e0, _, w0⟩ := DataW.trod_int Tryd.underlying3 g0
    obtain ⟨bi, e1, _, w1⟩ := DataW.trod_int Tryd.underlying3 g1
    obtain ⟨ve, e2, _, w2⟩ := DataW.trod_int Tryd.underlying3 g2
    obtain ⟨d, e3, _, hd⟩ := DataW.trod_string Tryd.underlying9 g3
    obtain ⟨s, e4, _, hs⟩ := DataW.trod_string Tryd.underlying9 g4
    obtain ⟨t, e5, _, ht⟩ := DataW.trod_string Tryd.underlying9 g5
    obtain ⟨p, e6, _, hp⟩ := DataW.trod_string Tryd.underlying9 g6
    obtain ⟨ra, n, cap, V, rfl, hn, hR⟩ := open_ints g7
    simp at e0 e1 e2 e3 e4 e5 e6
    subst e0 e1 e2 e3 e4 e5 e6
    exact ⟨f, bi, ve, d, s, t, p, ra, n, cap, V, rfl, hd, hs, ht, hp, hn, hR, w0, w1, w2⟩
end Go.Proofs.YtgfjkdkapafndaaDoor
