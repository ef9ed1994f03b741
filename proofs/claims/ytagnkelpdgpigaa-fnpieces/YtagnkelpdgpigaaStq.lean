/-
  What comes of a stream, as values: good ones, a piece that is taken, what is read.
-/
import Derived.Test.YtagnkelpdgpigaaStp
import Derived.Test.YtagnkelpdgpigaaInf
namespace Go.Proofs.Ytagnkelpdgpigaa.Rc
set_option linter.unusedVariables false

/-- the rest of the pieces is good, from a place on -/
def grI (li fi : Int) : Int → List PieceD → Bool
  | _, [] => true
  | lo, p :: P => decide (0 < p.f1.size) && (decide (lo ≤ p.f0) && (decide (pE p ≤ li) && ((decide (fi = -1) || decide (pE p ≤ fi)) && grI li fi (pE p + 1) P)))
theorem grI_iff : ∀ {P : List PieceD} {li fi lo : Int}, grI li fi lo P = true ↔ Can lo P ∧ ∀ p ∈ P, pE p ≤ li ∧ (fi = -1 ∨ pE p ≤ fi)
  | [], li, fi, lo => by
    constructor
    · exact fun _ => ⟨trivial, fun p hp => by cases hp⟩
    · exact fun _ => rfl
  | p :: P, li, fi, lo => by
    unfold grI
    simp only [Bool.and_eq_true, Bool.or_eq_true, decide_eq_true_eq]
    rw [grI_iff (P := P)]
    constructor
    · rintro ⟨h1, h2, h3, h4, h5, h6⟩
      refine ⟨⟨h2, h1, h5⟩, fun q hq => ?_⟩
      rcases List.mem_cons.1 hq with rfl | hq
      · exact ⟨h3, h4⟩
      · exact h6 q hq
    · rintro ⟨⟨h2, h1, h5⟩, h6⟩
      exact ⟨h1, h2, (h6 p List.mem_cons_self).1, (h6 p List.mem_cons_self).2, h5, fun q hq => h6 q (List.mem_cons_of_mem _ hq)⟩
/-- whether what came is good -/
def giB (D : InflowD) : Bool :=
  (decide (0 ≤ D.li) && decide (D.li ≤ 4000)) && ((decide (0 ≤ D.re) && decide (D.re ≤ D.li)) && ((decide (D.fi = -1) || (decide (D.re ≤ D.fi) && decide (D.fi ≤ D.li))) && (decide (D.P.length ≤ 40) && grI D.li D.fi D.re D.P)))
structure GoodI (D : InflowD) : Prop where
  l0 : 0 ≤ D.li
  l1 : D.li ≤ 4000
  r0 : 0 ≤ D.re
  r1 : D.re ≤ D.li
  fi : D.fi = -1 ∨ (D.re ≤ D.fi ∧ D.fi ≤ D.li)
  n : D.P.length ≤ 40
  can : Can D.re D.P
  hi : ∀ p ∈ D.P, pE p ≤ D.li ∧ (D.fi = -1 ∨ pE p ≤ D.fi)
theorem giB_iff {D : InflowD} : giB D = true ↔ GoodI D := by
  unfold giB
  simp only [Bool.and_eq_true, Bool.or_eq_true, decide_eq_true_eq]
  rw [grI_iff]
  constructor
  · rintro ⟨⟨a, b⟩, ⟨c, d⟩, e, f, g, h⟩
    exact ⟨a, b, c, d, e, f, g, h⟩
  · rintro ⟨a, b, c, d, e, f, g, h⟩
    exact ⟨⟨a, b⟩, ⟨c, d⟩, e, f, g, h⟩
/-- where the last piece ends, or what was read -/
def lE (re : Int) (P : List PieceD) : Int := match P.getLast? with | some p => pE p | none => re
theorem lE_le {re hi : Int} {P : List PieceD} (h : ∀ p ∈ P, pE p ≤ hi) (hr : P = [] → re ≤ hi) : lE re P ≤ hi := by
  unfold lE
  cases e : P.getLast? with
  | none => exact hr (List.getLast?_eq_none_iff.1 e)
  | some p => exact h p (List.mem_of_getLast? e)
theorem can_last : ∀ {P : List PieceD} {lo : Int} {p : PieceD}, Can lo P → p ∈ P → pE p ≤ lE lo P
  | [], _, _, _, h => by cases h
  | [q], lo, p, _, h => by
    rcases List.mem_singleton.1 h with rfl
    exact Int.le_refl _
  | q :: r :: P, lo, p, hc, h => by
    have e : lE lo (q :: r :: P) = lE (pE q + 1) (r :: P) := by
      unfold lE
      rw [List.getLast?_cons_cons]
      cases e : (r :: P).getLast? with
      | none => cases (List.getLast?_eq_none_iff.1 e)
      | some p => rfl
    rw [e]
    rcases List.mem_cons.1 h with rfl | h
    · have := can_last hc.2.2 (p := r) List.mem_cons_self
      have h1 := hc.2.2.1
      have h2 := hc.2.2.2.1
      unfold pE at *
      omega
    · exact can_last hc.2.2 h
/-- whether a byte is another one than what lies there -/
def cl1 (p : PieceD) (at' : Int) (d : ByteArray) (i : Nat) : Bool := (decide (0 ≤ p.f0 + i - at') && decide (p.f0 + i - at' < d.size)) && (d.data[(p.f0 + i - at').toNat]? != p.f1.data[i]?)
def clP (p : PieceD) (at' : Int) (d : ByteArray) : Bool := (List.range p.f1.size).any (cl1 p at' d)
def clB (P : List PieceD) (at' : Int) (d : ByteArray) : Bool := P.any fun p => clP p at' d
theorem byt_mem : ∀ {P : List PieceD} {i : Int} {b : UInt8}, byt P i = some b → ∃ p ∈ P, by1 p i = some b
  | [], _, _, h => by cases h
  | p :: P, i, b, h => by
    change (by1 p i).or (byt P i) = some b at h
    cases e : by1 p i with
    | some c =>
      rw [e] at h
      exact ⟨p, List.mem_cons_self, by rw [e]; exact h⟩
    | none =>
      rw [e, Option.none_or] at h
      obtain ⟨q, hq, hb⟩ := byt_mem h
      exact ⟨q, List.mem_cons_of_mem _ hq, hb⟩
theorem byt_of : ∀ {P : List PieceD} {lo : Int} {p : PieceD} {i : Int}, Can lo P → p ∈ P → p.f0 ≤ i → i < pE p → byt P i = by1 p i
  | [], _, _, _, _, h, _, _ => by cases h
  | q :: P, lo, p, i, hc, h, h0, h1 => by
    rcases List.mem_cons.1 h with rfl | h
    · exact byt_head hc (by omega)
    · have hq : pE q ≤ i := by
        have h2 := byt_lo (i := p.f0) hc.2.2
        apply Int.not_lt.1
        intro h3
        obtain ⟨b, hb⟩ := by1_in h0 h1
        have h4 := byt_of hc.2.2 h h0 h1
        rw [byt_lo hc.2.2 (by omega), hb] at h4
        cases h4
      rw [byt_tail hq]
      exact byt_of hc.2.2 h h0 h1
theorem clB_no {P : List PieceD} {at' : Int} {d : ByteArray} (h : clB P at' d = false) {i : Int} {b c : UInt8} (hb : byt P i = some b) (hc : by1 ⟨at', d⟩ i = some c) : b = c := by
  obtain ⟨p, hp, hpb⟩ := byt_mem hb
  have h1 := by1_some hpb
  have h2 := by1_some hc
  unfold clB at h
  rw [List.any_eq_false] at h
  have h3 := h p hp
  unfold clP at h3
  rw [Bool.not_eq_true, List.any_eq_false] at h3
  have h4 := h3 (i - p.f0).toNat (List.mem_range.2 (by have := h1.2; unfold pE at this; omega))
  unfold cl1 at h4
  unfold by1 at hpb hc
  dsimp only at hc
  have h5 : pE ⟨at', d⟩ = at' + d.size := rfl
  have h6 : at' ≤ i := h2.1
  have h7 := h2.2
  rw [h5] at h7
  rw [if_pos h1.1] at hpb
  rw [if_pos h6] at hc
  rw [show p.f0 + ((i - p.f0).toNat : Int) - at' = i - at' by omega, hc, hpb, decide_eq_true (show 0 ≤ i - at' by omega), decide_eq_true (show i - at' < d.size by omega)] at h4
  simp only [Bool.and_self, Bool.true_and, bne_iff_ne, ne_eq, Option.some.injEq, Decidable.not_not] at h4
  exact h4.symm
theorem clB_yes {P : List PieceD} {at' lo : Int} {d : ByteArray} (hc : Can lo P) (h : clB P at' d = true) : ∃ (i : Int) (b c : UInt8), byt P i = some b ∧ by1 ⟨at', d⟩ i = some c ∧ b ≠ c := by
  unfold clB at h
  rw [List.any_eq_true] at h
  obtain ⟨p, hp, h⟩ := h
  unfold clP at h
  rw [List.any_eq_true] at h
  obtain ⟨i, hi, h⟩ := h
  have hi := List.mem_range.1 hi
  unfold cl1 at h
  simp only [Bool.and_eq_true, decide_eq_true_eq, bne_iff_ne] at h
  obtain ⟨⟨h0, h1⟩, h2⟩ := h
  have e1 : by1 p (p.f0 + i) = p.f1.data[i]? := by
    unfold by1
    rw [if_pos (by omega), show (p.f0 + (i : Int) - p.f0).toNat = i by omega]
  have e2 : by1 ⟨at', d⟩ (p.f0 + i) = d.data[(p.f0 + i - at').toNat]? := by
    unfold by1
    dsimp only
    rw [if_pos (by omega)]
  have e3 := byt_of hc hp (show p.f0 ≤ p.f0 + (i : Int) by omega) (by unfold pE; omega)
  obtain ⟨b, hb⟩ := by1_in (p := p) (i := p.f0 + i) (by omega) (by unfold pE; omega)
  obtain ⟨c, hcc⟩ := by1_in (p := ⟨at', d⟩) (i := p.f0 + i) (by dsimp only; omega) (by unfold pE; dsimp only; omega)
  refine ⟨p.f0 + i, b, c, by rw [e3, hb], hcc, ?_⟩
  rintro rfl
  rw [← e1, ← e2, hb, hcc] at h2
  exact h2 rfl
/-- what of a piece lies at or above what was read -/
def tkX (re at' : Int) (d : ByteArray) : PieceD := if at' < re then ⟨re, d.extract (re - at').toNat d.size⟩ else ⟨at', d⟩
/-- the pieces with one that is taken -/
def tkP (D : InflowD) (at' : Int) (d : ByteArray) : List PieceD := if D.re < at' + d.size ∧ (tkX D.re at' d).f1.size ≠ 0 then putS D.P (tkX D.re at' d) else D.P
/-- whether the final size speaks against it -/
def fnB (D : InflowD) (e : Int) (fin : Bool) : Bool := (fin && ((!decide (D.fi = -1) && !decide (D.fi = e)) || decide (e < lE D.re D.P))) || (!decide (D.fi = -1) && decide (D.fi < e))
def tkA (D : InflowD) (at' : Int) (d : ByteArray) : Bool := giB D && ((decide (0 ≤ at') && decide (at' ≤ 4611686018427387903)) && decide (d.size ≤ 1500))
/-- the code, and what came then -/
def tkC (D : InflowD) (at' : Int) (d : ByteArray) (fin : Bool) : Int :=
  if tkA D at' d = true then (if D.li < at' + d.size then 2 else if fnB D (at' + d.size) fin = true then 3 else if clB D.P at' d = true then 4 else if 40 < (tkP D at' d).length then 5 else 0) else 1
def infZ : InflowD := ⟨0, 0, 0, []⟩
def tkD (D : InflowD) (at' : Int) (d : ByteArray) (fin : Bool) (c : Int) : InflowD :=
  if c = 1 then infZ else if c = 0 then ⟨D.li, D.re, if fin = true then at' + d.size else D.fi, tkP D at' d⟩ else D
end Go.Proofs.Ytagnkelpdgpigaa.Rc
