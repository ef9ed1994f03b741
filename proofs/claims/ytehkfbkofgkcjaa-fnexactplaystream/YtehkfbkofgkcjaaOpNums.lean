/-
  How a row of numbers that is handed to a law reads.
-/
import Derived.Test.YtehkfbkofgkcjaaPlayStreamG
import Derived.Deep.Slices
import Derived.Lib.SmallJoins
import Derived.ChangeOld
namespace Go.Proofs.Ytehkfbkofgkcjaa.Rc
open Go.ChangeShapes Go.WideShapes Go.ChangeAt Go.RowKit Go.Deep
set_option linter.unusedVariables false
set_option maxRecDepth 100000

theorem cI : Try.prog.cellsOf 3 = 1 := by kernel_rfl
theorem open_ints {H : Type} {enc : TypeId × Value → H} {W : World} {spare : Nat → Bool} {held : Bool} {fuel : Nat} {v : Value} {x : DataW H × List MemPlace}
    (h : DataW.trod enc Try.prog W 0 spare held fuel 46 [v] = some x) : ∃ (a : Option Addr) (n cap : Nat) (V : Nat → Int), v = .slice a n cap ∧ n ≤ maxLen ∧ Ia W a n cap V := by
  rcases open_slice1 Try.underlying46 cI h with ⟨hc, _⟩ | ⟨a, len, cap, m, n, V, D, P, hc, _, hl, hm, hmm, _, hx⟩
  · exact ⟨none, 0, 0, fun _ => 0, by simpa using hc, by unfold maxLen; omega, Or.inl rfl⟩
  · refine ⟨some a, len, cap, fun i => intOf (V i), by simpa using hc, by omega, ?_⟩
    by_cases h0 : len = 0
    · exact Or.inl h0
    · right
      have hlm : len ≤ m := by rw [hmm]; split <;> omega
      obtain ⟨b, off, spot⟩ := a
      have hs : spot = none := by
        have h1 := (hx 0 (by omega)).1
        have := World.cell?_spot h1
        simpa [Addr.add] using this
      subst hs
      have key : ∀ i, i < len → ∃ f : Int, V i = .int .i64 f ∧ (-9223372036854775808 ≤ f ∧ f ≤ 9223372036854775807) := by
        intro i hi
        obtain ⟨_, q0⟩ := hx i (by omega)
        obtain ⟨f, e0, _, w0⟩ := DataW.trod_int Try.underlying3 q0
        exact ⟨f, by simpa using e0, bounds_i64 w0⟩
      have ad : ∀ j : Nat, (⟨b, off, none⟩ : Addr).add j = ⟨b, off + j, none⟩ := by intro j; unfold Addr.add; split <;> simp_all
      refine ⟨b, off, rfl, Or.inr ?_, ?_, ?_⟩
      · have h1 := (hx 0 (by omega)).1
        have := World.block_lt_of_cell? W _ h1
        simpa [ad] using this
      · intro i hi
        obtain ⟨f, e0, _⟩ := key i hi
        have h1 := (hx i (by omega)).1
        rw [ad, e0] at h1
        simp only [e0, intOf]
        exact h1
      · intro i hi
        obtain ⟨f, e0, b0⟩ := key i hi
        simp only [e0, intOf]
        exact b0
theorem open_NumsS {H : Type} {enc : TypeId × Value → H} {W : World} {spare : Nat → Bool} {held : Bool} {fuel : Nat} {v : Value} {x : DataW H × List MemPlace}
    (h : DataW.trod enc Try.prog W 0 spare held fuel 46 [v] = some x) : ∃ (a : Option Addr) (c : Nat) (L : List Int), v = .slice a L.length c ∧ L.length ≤ maxLen ∧ True ∧ bvI L ∧ Rd intK W a L := by
  obtain ⟨a, n, cap, V, rfl, hn, hI⟩ := open_ints h
  have hl : ((List.range n).map V).length = n := by simp
  have hg : ∀ k, k < n → gt intK ((List.range n).map V) k = V k := fun k hk => by
    rw [gt_of intK _ k (by rw [hl]; exact hk)]
    simp
  rcases hI with rfl | ⟨b, off, rfl, hr⟩
  · exact ⟨a, cap, [], rfl, by simp [maxLen], trivial, fun k hk => absurd hk (Nat.not_lt_zero _), Or.inl rfl⟩
  · refine ⟨_, cap, (List.range n).map V, by rw [hl], by rw [hl]; exact hn, trivial, fun k hk => ?_, ?_⟩
    · rw [hl] at hk
      rw [hg k hk]
      exact hr.bv k hk
    · rcases hr.lt with h0 | h0
      · exact Or.inl (List.length_eq_zero_iff.1 (by rw [hl]; exact h0))
      · exact Or.inr ⟨b, off, rfl, h0, fun q hq => by
          rw [int_m, hl] at hq
          rw [int_c, hg q hq]
          exact hr.cv q hq⟩
end Go.Proofs.Ytehkfbkofgkcjaa.Rc
