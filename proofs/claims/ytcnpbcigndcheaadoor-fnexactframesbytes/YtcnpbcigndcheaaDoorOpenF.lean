/-
  How a frame that is handed to a law reads: its seven fields, its ranges.
-/
import Derived.Test.YtcnpbcigndcheaaDoorCpy
import Derived.Deep.SlicePairs
import Derived.Lib.SmallJoins
namespace Go.Proofs.YtcnpbcigndcheaaDoor
open Go.ChangeShapes Go.WideShapes Go.ChangeAt Go.RowKit Go.Deep
set_option linter.unusedVariables false

theorem cI : Tryd.prog.cellsOf 3 = 1 := by kernel_rfl
theorem cB : Tryd.prog.cellsOf 4 = 1 := by kernel_rfl
theorem cS : Tryd.prog.cellsOf 9 = 1 := by kernel_rfl
theorem cRs : Tryd.prog.cellsOf 31 = 1 := by kernel_rfl
theorem cR : Tryd.prog.cellsOf 65 = 2 := by kernel_rfl
theorem cF : Tryd.prog.cellsOf 33 = 7 := by kernel_rfl

theorem open_ranges {H : Type} {enc : TypeId × Value → H} {W : World} {spare : Nat → Bool} {held : Bool} {fuel : Nat} {v : Value} {x : DataW H × List MemPlace}
    (h : DataW.trod enc Tryd.prog W 0 spare held fuel 31 [v] = some x) : ∃ (a : Option Addr) (n cap : Nat) (F T : Nat → Int), v = .slice a n cap ∧ n ≤ maxLen ∧ Ra W a n cap F T := by
  rcases open_slice_pairs Tryd.underlying31 Tryd.underlying65 cR rfl rfl cI cI h with ⟨hc, _⟩ | ⟨a, len, cap, m, n, V0, V1, D0, D1, P0, P1, hc, _, hl, hm, hmm, _, hx⟩
  · refine ⟨none, 0, 0, fun _ => 0, fun _ => 0, by simpa using hc, by unfold maxLen; omega, Or.inl rfl⟩
  · refine ⟨some a, len, cap, fun i => intOf (V0 i), fun i => intOf (V1 i), by simpa using hc, by omega, ?_⟩
    by_cases h0 : len = 0
    · exact Or.inl h0
    · right
      have hlm : len ≤ m := by rw [hmm]; split <;> omega
      obtain ⟨b, off, spot⟩ := a
      have hs : spot = none := by
        have h1 := (hx 0 (by omega)).1
        have := World.cell?_spot h1
        simpa [Addr.add] using this
      subst hs
      have key : ∀ i, i < len → ∃ f t : Int, V0 i = .int .i64 f ∧ V1 i = .int .i64 t ∧ (-9223372036854775808 ≤ f ∧ f ≤ 9223372036854775807) ∧ (-9223372036854775808 ≤ t ∧ t ≤ 9223372036854775807) := by
        intro i hi
        obtain ⟨_, _, q0, q1⟩ := hx i (by omega)
        obtain ⟨f, e0, _, w0⟩ := DataW.trod_int Tryd.underlying3 q0
        obtain ⟨t, e1, _, w1⟩ := DataW.trod_int Tryd.underlying3 q1
        exact ⟨f, t, by simpa using e0, by simpa using e1, bounds_i64 w0, bounds_i64 w1⟩
      have ad : ∀ j : Nat, (⟨b, off, none⟩ : Addr).add j = ⟨b, off + j, none⟩ := by intro j; unfold Addr.add; split <;> simp_all
      refine ⟨b, off, rfl, Or.inr ?_, ?_, ?_, ?_, ?_⟩
      · have h1 := (hx 0 (by omega)).1
        have := World.block_lt_of_cell? W _ h1
        simpa [ad] using this
      · intro i hi
        obtain ⟨f, t, e0, e1, _, _⟩ := key i hi
        have h1 := (hx i (by omega)).1
        rw [ad, e0] at h1
        simp only [e0, intOf]
        exact h1
      · intro i hi
        obtain ⟨f, t, e0, e1, _, _⟩ := key i hi
        have h1 := (hx i (by omega)).2.1
        rw [ad, e1] at h1
        simp only [e1, intOf]
        rw [Nat.add_assoc]
        exact h1
      · intro i hi
        obtain ⟨f, t, e0, e1, b0, b1⟩ := key i hi
        simp only [e0, intOf]
        exact b0
      · intro i hi
        obtain ⟨f, t, e0, e1, b0, b1⟩ := key i hi
        simp only [e1, intOf]
        exact b1

theorem open_frame {H : Type} {enc : TypeId × Value → H} {W : World} {spare : Nat → Bool} {held : Bool} {fuel : Nat} {cs : List Value} {x : DataW H × List MemPlace}
    (h : DataW.trod enc Tryd.prog W 0 spare held fuel 33 cs = some x) :
    ∃ (k a b c : Int) (fin : Bool) (s : ByteArray) (ra : Option Addr) (n cap : Nat) (F T : Nat → Int), cs = [.int .i64 k, .int .i64 a, .int .i64 b, .int .i64 c, .bool fin, .string s, .slice ra n cap] ∧ s.size ≤ maxLen ∧ n ≤ maxLen ∧ Ra W ra n cap F T ∧
      (Lit.int .i64 k).wf = true ∧ (Lit.int .i64 a).wf = true ∧ (Lit.int .i64 b).wf = true ∧ (Lit.int .i64 c).wf = true := by
  obtain ⟨xs, n, _, _, hl, hlen, hf⟩ := DataW.trod_struct Tryd.underlying33 h
  rw [cF] at hl
  match cs, hl, xs, hlen with
  | [c0, c1, c2, c3, c4, c5, c6], _, [y0, y1, y2, y3, y4, y5, y6], _ =>
    have g0 := hf 0 _ rfl
    have g1 := hf 1 _ rfl
    have g2 := hf 2 _ rfl
    have g3 := hf 3 _ rfl
    have g4 := hf 4 _ rfl
    have g5 := hf 5 _ rfl
    have g6 := hf 6 _ rfl
    simp [cI, cB, cS, cRs] at g0 g1 g2 g3 g4 g5 g6
    obtain ⟨k, e0, _, w0⟩ := DataW.trod_int Tryd.underlying3 g0
    obtain ⟨a, e1, _, w1⟩ := DataW.trod_int Tryd.underlying3 g1
    obtain ⟨b, e2, _, w2⟩ := DataW.trod_int Tryd.underlying3 g2
    obtain ⟨c, e3, _, w3⟩ := DataW.trod_int Tryd.underlying3 g3
    obtain ⟨fin, e4, _⟩ := DataW.trod_bool Tryd.underlying4 g4
    obtain ⟨s, e5, _, hs⟩ := DataW.trod_string Tryd.underlying9 g5
    obtain ⟨ra, n, cap, F, T, rfl, hn, hR⟩ := open_ranges g6
    simp at e0 e1 e2 e3 e4 e5
    subst e0 e1 e2 e3 e4 e5
    exact ⟨k, a, b, c, fin, s, ra, n, cap, F, T, rfl, hs, hn, hR, w0, w1, w2, w3⟩
end Go.Proofs.YtcnpbcigndcheaaDoor
