/-
  What came stays good: behind a piece that is taken, behind what is read; a stream that is played, as values.
-/
import Derived.Test.YtmicpknilhiliaaStr
namespace Go.Proofs.Ytmicpknilhiliaa.Rc
set_option linter.unusedVariables false

theorem lE_ge {P : List PieceD} {re : Int} (h : Can re P) : re ≤ lE re P := by
  cases P with
  | nil => exact Int.le_refl _
  | cons p P =>
    have h1 := can_last h (p := p) List.mem_cons_self
    have h2 := h.1
    have h3 := h.2.1
    unfold pE at h1
    omega
theorem tkX_in {re at' : Int} {d : ByteArray} (h : re < at' + d.size) : re ≤ (tkX re at' d).f0 ∧ pE (tkX re at' d) = at' + d.size ∧ ∀ i, re ≤ i → by1 (tkX re at' d) i = by1 ⟨at', d⟩ i := by
  unfold tkX
  by_cases ha : at' < re
  · rw [if_pos ha]
    have sz : (d.extract (re - at').toNat d.size).size = d.size - (re - at').toNat := by rw [ByteArray.size_extract]; omega
    refine ⟨Int.le_refl _, ?_, fun i hi => ?_⟩
    · show re + ((d.extract (re - at').toNat d.size).size : Nat) = _
      rw [sz]
      omega
    · unfold by1
      dsimp only
      rw [if_pos hi, if_pos (by omega), ByteArray.data_extract, Array.getElem?_extract]
      have sd : d.data.size = d.size := rfl
      by_cases h2 : i < at' + d.size
      · rw [if_pos (by rw [sd]; omega)]
        congr 1
        omega
      · rw [if_neg (by rw [sd]; omega), Array.getElem?_eq_none (by rw [sd]; omega)]
  · rw [if_neg ha]
    exact ⟨by dsimp only; omega, rfl, fun _ _ => rfl⟩
/-- what a piece that is taken asks -/
structure Took (D : InflowD) (at' : Int) (d : ByteArray) (fin : Bool) : Prop where
  g : GoodI D
  a0 : 0 ≤ at'
  a1 : at' ≤ 4611686018427387903
  dz : d.size ≤ 1500
  li : at' + d.size ≤ D.li
  f1 : fin = true → D.fi = -1 ∨ D.fi = at' + d.size
  f2 : fin = true → lE D.re D.P ≤ at' + d.size
  f3 : D.fi = -1 ∨ at' + d.size ≤ D.fi
  cl : clB D.P at' d = false
  n : (tkP D at' d).length ≤ 40
theorem took_iff {D : InflowD} {at' : Int} {d : ByteArray} {fin : Bool} : tkC D at' d fin = 0 ↔ Took D at' d fin := by
  have fb : fnB D (at' + d.size) fin = false ↔ ((fin = true → D.fi = -1 ∨ D.fi = at' + d.size) ∧ (fin = true → lE D.re D.P ≤ at' + d.size) ∧ (D.fi = -1 ∨ at' + d.size ≤ D.fi)) := by
    unfold fnB
    cases fin
    · simp only [Bool.false_and, Bool.false_or, Bool.and_eq_false_iff, Bool.not_eq_false', decide_eq_true_eq, decide_eq_false_iff_not, Int.not_lt, Bool.false_eq_true, false_implies, true_and]
    · simp only [Bool.true_and, Bool.or_eq_false_iff, Bool.and_eq_false_iff, Bool.not_eq_false', decide_eq_true_eq, decide_eq_false_iff_not, forall_const, Int.not_lt]
      exact ⟨fun ⟨⟨a, b⟩, c⟩ => ⟨a, b, c⟩, fun ⟨a, b, c⟩ => ⟨⟨a, b⟩, c⟩⟩
  have ta : tkA D at' d = true ↔ (GoodI D ∧ (0 ≤ at' ∧ at' ≤ 4611686018427387903) ∧ d.size ≤ 1500) := by
    unfold tkA
    simp only [Bool.and_eq_true, decide_eq_true_eq]
    rw [giB_iff]
  unfold tkC
  constructor
  · intro h
    split at h
    · rename_i h1
      split at h
      · cases h
      · split at h
        · cases h
        · rename_i h2 h3
          split at h
          · cases h
          · split at h
            · cases h
            · rename_i h4 h5
              obtain ⟨t1, t2, t3⟩ := ta.1 h1
              obtain ⟨f1, f2, f3⟩ := fb.1 (Bool.eq_false_iff.2 h3)
              exact ⟨t1, t2.1, t2.2, t3, by omega, f1, f2, f3, Bool.eq_false_iff.2 h4, by omega⟩
    · cases h
  · intro h
    rw [if_pos (ta.2 ⟨h.g, ⟨h.a0, h.a1⟩, h.dz⟩), if_neg (by have := h.li; omega), if_neg (by rw [fb.2 ⟨h.f1, h.f2, h.f3⟩]; exact Bool.false_ne_true), if_neg (by rw [h.cl]; exact Bool.false_ne_true), if_neg (by have := h.n; omega)]
theorem tkP_can {D : InflowD} {at' : Int} {d : ByteArray} (g : Can D.re D.P) : Can D.re (tkP D at' d) := by
  unfold tkP
  split
  · rename_i h
    exact putS_can g (tkX_in h.1).1 (by omega)
  · exact g
theorem tkP_hi {D : InflowD} {at' hi : Int} {d : ByteArray} (h : ∀ p ∈ D.P, pE p ≤ hi) (he : at' + d.size ≤ hi) : ∀ p ∈ tkP D at' d, pE p ≤ hi := by
  unfold tkP
  split
  · rename_i h1
    exact putS_hi h (by rw [(tkX_in h1.1).2.1]; exact he)
  · exact h
theorem tk_good {D : InflowD} {at' : Int} {d : ByteArray} {fin : Bool} (h : Took D at' d fin) : GoodI (tkD D at' d fin 0) := by
  have e : tkD D at' d fin 0 = ⟨D.li, D.re, if fin = true then at' + d.size else D.fi, tkP D at' d⟩ := rfl
  rw [e]
  have g := h.g
  have hl := h.li
  have h0 := g.r0
  have hp := tkP_hi (at' := at') (d := d) (fun p hp => (g.hi p hp).1) hl
  refine ⟨g.l0, g.l1, g.r0, g.r1, ?_, h.n, tkP_can g.can, fun p hm => ⟨hp p hm, ?_⟩⟩
  · dsimp only
    by_cases hf : fin = true
    · rw [if_pos hf]
      have := h.f2 hf
      have := lE_ge g.can
      exact Or.inr ⟨by omega, by omega⟩
    · rw [if_neg hf]
      exact g.fi
  · dsimp only at hm ⊢
    by_cases hf : fin = true
    · rw [if_pos hf]
      exact Or.inr (tkP_hi (fun p hp => by have := can_last g.can hp; have := h.f2 hf; omega) (Int.le_refl _) p hm)
    · rw [if_neg hf]
      rcases h.f3 with h3 | h3
      · exact Or.inl h3
      · by_cases h4 : D.fi = -1
        · exact Or.inl h4
        · exact Or.inr (tkP_hi (fun p hp => ((g.hi p hp).2).resolve_left h4) h3 p hm)
theorem rdN_le (p : PieceD) (most : Int) (h : 0 ≤ most) : rdN p most ≤ p.f1.size ∧ (rdN p most : Int) ≤ most := by
  unfold rdN
  split <;> omega
theorem rd_good {D : InflowD} {most : Int} (g : GoodI D) (hm : 0 ≤ most) : GoodI (rdE D most) ∧ (rdE D most).re = D.re + (rdO D most).size ∧ ((rdO D most).size : Int) ≤ most := by
  unfold rdE rdO
  cases hP : D.P with
  | nil => exact ⟨g, by show D.re = D.re + ((0 : Nat) : Int); omega, hm⟩
  | cons p P =>
    dsimp only
    by_cases hc : p.f0 = D.re ∧ most ≠ 0
    · rw [if_pos hc, if_pos hc]
      obtain ⟨n1, n2⟩ := rdN_le p most hm
      generalize rdN p most = n at *
      have sz : (p.f1.extract 0 n).size = n := by rw [ByteArray.size_extract]; omega
      have gc := g.can
      rw [hP] at gc
      obtain ⟨c1, c2, c3⟩ := gc
      have hi := g.hi p (by rw [hP]; exact List.mem_cons_self)
      have ep : pE p = p.f0 + p.f1.size := rfl
      have h0 := g.r0
      have hc1 := hc.1
      refine ⟨?_, by rw [sz]; rfl, by rw [sz]; exact n2⟩
      unfold rdL
      refine ⟨g.l0, g.l1, by dsimp only; omega, by dsimp only; have := hi.1; omega, ?_, ?_, ?_, ?_⟩
      · dsimp only
        rcases g.fi with h1 | h1
        · exact Or.inl h1
        · rcases hi.2 with h2 | h2
          · exact Or.inl h2
          · exact Or.inr ⟨by omega, h1.2⟩
      · have := g.n
        rw [hP] at this
        dsimp only
        split
        · simp at this; omega
        · simpa using this
      · dsimp only
        split
        · exact c3.mono (by omega)
        · refine ⟨Int.le_refl _, by rw [ByteArray.size_extract]; omega, ?_⟩
          refine c3.mono ?_
          unfold pE
          dsimp only
          rw [ByteArray.size_extract]
          omega
      · dsimp only
        intro q hq
        have tail : q ∈ P → pE q ≤ D.li ∧ (D.fi = -1 ∨ pE q ≤ D.fi) := fun h => g.hi q (by rw [hP]; exact List.mem_cons_of_mem _ h)
        split at hq
        · exact tail hq
        · rcases List.mem_cons.1 hq with rfl | hq
          · have e : pE ⟨D.re + (n : Int), p.f1.extract n p.f1.size⟩ = pE p := by
              unfold pE
              dsimp only
              rw [ByteArray.size_extract]
              omega
            rw [e]
            exact hi
          · exact tail hq
    · rw [if_neg hc, if_neg hc]
      exact ⟨g, by show D.re = D.re + ((0 : Nat) : Int); omega, hm⟩
/-- the pieces that a text is cut into, and whether the cuts are as said -/
def cutP (d : ByteArray) : Int → List Int → List PieceD
  | at', [] => [⟨at', d.extract at'.toNat d.size⟩]
  | at', k :: ks => ⟨at', d.extract at'.toNat k.toNat⟩ :: cutP d k ks
def cuB (n : Int) : Bool → Int → List Int → Bool
  | _, _, [] => true
  | fst, at', k :: ks => (decide (0 ≤ k) && decide (k ≤ n)) && ((fst || decide (at' < k)) && cuB n false k ks)
/-- one number of the order -/
def psT (PS : List PieceD) (st : InflowD × ByteArray) (n : Int) : InflowD :=
  if tkC st.1 (gt pieceK PS n.toNat).f0 (gt pieceK PS n.toNat).f1 (decide (n = (PS.length : Int) - 1)) = 0 then tkD st.1 (gt pieceK PS n.toNat).f0 (gt pieceK PS n.toNat).f1 (decide (n = (PS.length : Int) - 1)) 0 else st.1
def psS (PS : List PieceD) (st : InflowD × ByteArray) (n : Int) : InflowD × ByteArray :=
  if 0 ≤ n ∧ n ≤ (PS.length : Int) - 1 then (rdE (psT PS st n) 4000, st.2 ++ rdO (psT PS st n) 4000) else st
def psF (PS : List PieceD) (limit : Int) (order : List Int) : InflowD × ByteArray := order.foldl (psS PS) (⟨limit, 0, -1, []⟩, ⟨#[]⟩)
def psB (d : ByteArray) (limit : Int) (cuts order : List Int) : Bool := niB limit && (decide (d.size ≤ 4000) && (decide (cuts.length ≤ 40) && (decide (order.length ≤ 100) && cuB d.size true 0 cuts)))
theorem psT_good {PS : List PieceD} {st : InflowD × ByteArray} {n : Int} (g : GoodI st.1) : GoodI (psT PS st n) := by
  unfold psT
  split
  · rename_i h
    exact tk_good (took_iff.1 h)
  · exact g
theorem psT_re {PS : List PieceD} {st : InflowD × ByteArray} {n : Int} : (psT PS st n).re = st.1.re := by
  unfold psT
  split
  · rfl
  · rfl
theorem psS_good {PS : List PieceD} {st : InflowD × ByteArray} {n : Int} (g : GoodI st.1) (h : st.1.re = st.2.size) : GoodI (psS PS st n).1 ∧ (psS PS st n).1.re = (psS PS st n).2.size := by
  unfold psS
  split
  · obtain ⟨h1, h2, _⟩ := rd_good (most := 4000) (psT_good (PS := PS) (n := n) g) (by omega)
    refine ⟨h1, ?_⟩
    dsimp only
    rw [h2, psT_re, ByteArray.size_append, h]
    omega
  · exact ⟨g, h⟩
end Go.Proofs.Ytmicpknilhiliaa.Rc
