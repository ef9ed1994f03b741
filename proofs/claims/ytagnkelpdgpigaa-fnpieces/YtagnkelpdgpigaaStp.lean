/-
  Pieces of a stream: the bytes that they cover, their one canonical form, and a piece that is put to them.
-/
import Derived.Test.YtagnkelpdgpigaaRcPiece
namespace Go.Proofs.Ytagnkelpdgpigaa.Rc
set_option linter.unusedVariables false

/-- where a piece ends -/
def pE (p : PieceD) : Int := p.f0 + p.f1.size
/-- the byte that a piece has at a place -/
def by1 (p : PieceD) (i : Int) : Option UInt8 := if p.f0 ≤ i then p.f1.data[(i - p.f0).toNat]? else none
theorem by1_in {p : PieceD} {i : Int} (h : p.f0 ≤ i) (h' : i < pE p) : ∃ b, by1 p i = some b := by
  unfold by1 pE at *
  rw [if_pos h]
  have : (i - p.f0).toNat < p.f1.data.size := by show _ < p.f1.size; omega
  exact ⟨_, Array.getElem?_eq_getElem this⟩
theorem by1_lo {p : PieceD} {i : Int} (h : i < p.f0) : by1 p i = none := by
  unfold by1
  rw [if_neg (by omega)]
theorem by1_hi {p : PieceD} {i : Int} (h : pE p ≤ i) : by1 p i = none := by
  unfold by1 pE at *
  split
  · exact Array.getElem?_eq_none (by show p.f1.size ≤ _; omega)
  · rfl
theorem by1_some {p : PieceD} {i : Int} {b : UInt8} (h : by1 p i = some b) : p.f0 ≤ i ∧ i < pE p := by
  constructor
  · apply Int.not_lt.1
    intro h1
    rw [by1_lo h1] at h
    cases h
  · apply Int.not_le.1
    intro h1
    rw [by1_hi h1] at h
    cases h
/-- the byte that lies at a place -/
def byt : List PieceD → Int → Option UInt8
  | [], _ => none
  | p :: P, i => (by1 p i).or (byt P i)
/-- pieces with bytes, rising, none touching, from a place on -/
def Can : Int → List PieceD → Prop
  | _, [] => True
  | lo, p :: P => lo ≤ p.f0 ∧ 0 < p.f1.size ∧ Can (pE p + 1) P
theorem Can.mono : ∀ {P : List PieceD} {lo lo' : Int}, Can lo P → lo' ≤ lo → Can lo' P
  | [], _, _, _, _ => trivial
  | p :: P, lo, lo', h, hl => ⟨Int.le_trans hl h.1, h.2.1, h.2.2⟩
theorem byt_lo : ∀ {P : List PieceD} {lo i : Int}, Can lo P → i < lo → byt P i = none
  | [], _, _, _, _ => rfl
  | p :: P, lo, i, h, hi => by
    obtain ⟨h1, h2, h3⟩ := h
    show (by1 p i).or (byt P i) = none
    rw [by1_lo (by omega), byt_lo h3 (by unfold pE; omega)]
    rfl
theorem byt_head {p : PieceD} {P : List PieceD} {lo i : Int} (h : Can lo (p :: P)) (hi : i ≤ pE p) : byt (p :: P) i = by1 p i := by
  show (by1 p i).or (byt P i) = _
  rw [byt_lo h.2.2 (by omega), Option.or_none]
theorem byt_tail {p : PieceD} {P : List PieceD} {i : Int} (hi : pE p ≤ i) : byt (p :: P) i = byt P i := by
  show (by1 p i).or (byt P i) = _
  rw [by1_hi hi, Option.none_or]
theorem piece_ext {p q : PieceD} (h0 : p.f0 = q.f0) (hs : p.f1.size = q.f1.size) (h : ∀ i, by1 p i = by1 q i) : p = q := by
  obtain ⟨a, s⟩ := p
  obtain ⟨b, t⟩ := q
  dsimp only at h0 hs
  subst h0
  have e : s = t := by
    apply ByteArray.ext
    apply Array.ext hs
    intro k h1 h2
    have hk := h (a + k)
    unfold by1 at hk
    dsimp only at hk
    rw [if_pos (by omega), if_pos (by omega), show (a + (k : Int) - a).toNat = k by omega, Array.getElem?_eq_getElem h1, Array.getElem?_eq_getElem h2] at hk
    exact Option.some.inj hk
  rw [e]
/-- one list alone covers just these bytes -/
theorem can_uniq : ∀ {P Q : List PieceD} {lo lo' : Int}, Can lo P → Can lo' Q → (∀ i, byt P i = byt Q i) → P = Q
  | [], [], _, _, _, _, _ => rfl
  | [], q :: Q, _, _, _, hq, h => by
    obtain ⟨b, hb⟩ := by1_in (p := q) (i := q.f0) (Int.le_refl _) (by have := hq.2.1; unfold pE; omega)
    have h1 := h q.f0
    rw [byt_head hq (by unfold pE; omega), hb] at h1
    cases h1
  | p :: P, [], _, _, hp, _, h => by
    obtain ⟨b, hb⟩ := by1_in (p := p) (i := p.f0) (Int.le_refl _) (by have := hp.2.1; unfold pE; omega)
    have h1 := h p.f0
    rw [byt_head hp (by unfold pE; omega), hb] at h1
    cases h1
  | p :: P, q :: Q, lo, lo', hp, hq, h => by
    have sp := hp.2.1
    have sq := hq.2.1
    have e0 : p.f0 = q.f0 := by
      rcases Int.lt_trichotomy p.f0 q.f0 with hlt | heq | hgt
      · obtain ⟨b, hb⟩ := by1_in (p := p) (i := p.f0) (Int.le_refl _) (by unfold pE; omega)
        have h1 := h p.f0
        rw [byt_head hp (by unfold pE; omega), hb, byt_head hq (by unfold pE; omega), by1_lo hlt] at h1
        cases h1
      · exact heq
      · obtain ⟨b, hb⟩ := by1_in (p := q) (i := q.f0) (Int.le_refl _) (by unfold pE; omega)
        have h1 := h q.f0
        rw [byt_head hq (by unfold pE; omega), hb, byt_head hp (by unfold pE; omega), by1_lo hgt] at h1
        cases h1
    have e1 : p.f1.size = q.f1.size := by
      rcases Nat.lt_trichotomy p.f1.size q.f1.size with hlt | heq | hgt
      · obtain ⟨b, hb⟩ := by1_in (p := q) (i := pE p) (by unfold pE; omega) (by unfold pE; omega)
        have h1 := h (pE p)
        rw [byt_head hp (Int.le_refl _), by1_hi (Int.le_refl _), byt_head hq (by unfold pE; omega), hb] at h1
        cases h1
      · exact heq
      · obtain ⟨b, hb⟩ := by1_in (p := p) (i := pE q) (by unfold pE; omega) (by unfold pE; omega)
        have h1 := h (pE q)
        rw [byt_head hq (Int.le_refl _), by1_hi (Int.le_refl _), byt_head hp (by unfold pE; omega), hb] at h1
        cases h1
    have ee : pE p = pE q := by unfold pE; omega
    have e2 : p = q := piece_ext e0 e1 fun i => by
      by_cases hi : i < pE p
      · have h1 := h i
        rw [byt_head hp (by omega), byt_head hq (by omega)] at h1
        exact h1
      · rw [by1_hi (by omega), by1_hi (by omega)]
    subst e2
    have e3 : P = Q := can_uniq hp.2.2 hq.2.2 fun i => by
      by_cases hi : i < pE p
      · rw [byt_lo hp.2.2 (by omega), byt_lo hq.2.2 (by omega)]
      · have h1 := h i
        rw [byt_tail (by omega), byt_tail (by omega)] at h1
        exact h1
    rw [e3]
/-- two that touch or lie over each other, as one -/
def mgL (p x : PieceD) : PieceD := if p.f0 < x.f0 then ⟨p.f0, p.f1.extract 0 (x.f0 - p.f0).toNat ++ x.f1⟩ else x
def mgS (p x : PieceD) : PieceD :=
  if (mgL p x).f0 + (mgL p x).f1.size - p.f0 < p.f1.size then ⟨(mgL p x).f0, (mgL p x).f1 ++ p.f1.extract ((mgL p x).f0 + (mgL p x).f1.size - p.f0).toNat p.f1.size⟩ else mgL p x
theorem mgL_in {p x : PieceD} (h : x.f0 ≤ pE p) : (mgL p x).f0 = min p.f0 x.f0 ∧ pE (mgL p x) = pE x ∧ ∀ i, by1 (mgL p x) i = (by1 x i).or (if i < x.f0 then by1 p i else none) := by
  unfold mgL
  by_cases hl : p.f0 < x.f0
  · rw [if_pos hl]
    have sz : (p.f1.extract 0 (x.f0 - p.f0).toNat).size = (x.f0 - p.f0).toNat := by
      rw [ByteArray.size_extract]
      unfold pE at h
      omega
    refine ⟨by dsimp only; omega, ?_, fun i => ?_⟩
    · unfold pE
      dsimp only
      rw [ByteArray.size_append, sz]
      omega
    · by_cases h0 : p.f0 ≤ i
      · by_cases h1 : i < x.f0
        · rw [if_pos h1, by1_lo h1, Option.none_or]
          unfold by1
          dsimp only
          rw [if_pos h0, if_pos h0, ByteArray.data_append, Array.getElem?_append_left (by show _ < (p.f1.extract 0 _).size; rw [sz]; omega), ByteArray.data_extract, Array.getElem?_extract, if_pos (by have : p.f1.data.size = p.f1.size := rfl; unfold pE at h; omega), Nat.zero_add]
        · rw [if_neg h1, Option.or_none]
          unfold by1
          dsimp only
          rw [if_pos h0, if_pos (by omega), ByteArray.data_append, Array.getElem?_append_right (by show (p.f1.extract 0 _).size ≤ _; rw [sz]; omega)]
          congr 1
          show _ - (p.f1.extract 0 _).size = _
          rw [sz]
          omega
      · rw [by1_lo (show i < (⟨p.f0, p.f1.extract 0 (x.f0 - p.f0).toNat ++ x.f1⟩ : PieceD).f0 by dsimp only; omega), by1_lo (show i < x.f0 by omega), if_pos (by omega), by1_lo (by omega)]
        rfl
  · rw [if_neg hl]
    refine ⟨by omega, rfl, fun i => ?_⟩
    by_cases h1 : i < x.f0
    · rw [if_pos h1, by1_lo (show i < p.f0 by omega), Option.or_none]
    · rw [if_neg h1, Option.or_none]
theorem mgS_in {p x : PieceD} (h : x.f0 ≤ pE p) (h' : p.f0 ≤ pE x) : (mgS p x).f0 = min p.f0 x.f0 ∧ pE (mgS p x) = max (pE p) (pE x) ∧ ∀ i, by1 (mgS p x) i = (by1 x i).or (by1 p i) := by
  obtain ⟨e0, e1, e2⟩ := mgL_in h
  have e1' : (mgL p x).f0 + (mgL p x).f1.size = pE x := e1
  have rest : ∀ i, i < pE x → (by1 x i).or (if i < x.f0 then by1 p i else none) = (by1 x i).or (by1 p i) := fun i hi => by
    by_cases h1 : i < x.f0
    · rw [if_pos h1]
    · obtain ⟨b, hb⟩ := by1_in (p := x) (i := i) (by omega) hi
      rw [hb]
      rfl
  unfold mgS
  rw [e1']
  by_cases hl : pE x - p.f0 < p.f1.size
  · rw [if_pos hl]
    refine ⟨e0, ?_, fun i => ?_⟩
    · show (mgL p x).f0 + (((mgL p x).f1 ++ p.f1.extract (pE x - p.f0).toNat p.f1.size).size : Nat) = _
      rw [ByteArray.size_append, ByteArray.size_extract]
      have : pE p = p.f0 + p.f1.size := rfl
      omega
    · have sm : (mgL p x).f1.data.size = (mgL p x).f1.size := rfl
      by_cases h1 : i < pE x
      · rw [← rest i h1, ← e2 i]
        unfold by1
        dsimp only
        split
        · rw [ByteArray.data_append, Array.getElem?_append_left (by rw [sm]; omega)]
        · rfl
      · rw [by1_hi (show pE x ≤ i by omega), Option.none_or]
        unfold by1
        dsimp only
        rw [if_pos (by omega), if_pos (by omega), ByteArray.data_append, Array.getElem?_append_right (by rw [sm]; omega), ByteArray.data_extract, Array.getElem?_extract]
        have sp : p.f1.data.size = p.f1.size := rfl
        by_cases h2 : i < pE p
        · unfold pE at h2
          rw [if_pos (by rw [sm]; omega)]
          congr 1
          rw [sm]
          omega
        · unfold pE at h2
          rw [if_neg (by rw [sm]; omega), Array.getElem?_eq_none (by rw [sp]; omega)]
  · rw [if_neg hl]
    have hp : pE p ≤ pE x := by have : pE p = p.f0 + p.f1.size := rfl; omega
    refine ⟨e0, by rw [e1]; omega, fun i => ?_⟩
    by_cases h1 : i < pE x
    · rw [e2 i, rest i h1]
    · rw [e2 i, if_neg (by have := h; omega), by1_hi (show pE p ≤ i by omega)]
/-- a piece put to pieces, as the model does -/
def putS : List PieceD → PieceD → List PieceD
  | [], x => [x]
  | p :: P, x => if pE p < x.f0 then p :: putS P x else if pE x < p.f0 then x :: p :: P else putS P (mgS p x)
theorem putS_byt : ∀ (P : List PieceD) (x : PieceD) (i : Int), byt (putS P x) i = (by1 x i).or (byt P i)
  | [], x, i => rfl
  | p :: P, x, i => by
    unfold putS
    by_cases h1 : pE p < x.f0
    · rw [if_pos h1]
      show (by1 p i).or (byt (putS P x) i) = (by1 x i).or ((by1 p i).or (byt P i))
      rw [putS_byt P x i]
      cases hp : by1 p i with
      | none => simp
      | some b =>
        have hx : by1 x i = none := by1_lo (by have := (by1_some hp).2; omega)
        rw [hx]
        rfl
    · rw [if_neg h1]
      by_cases h2 : pE x < p.f0
      · rw [if_pos h2]
        rfl
      · rw [if_neg h2, putS_byt P _ i, (mgS_in (by omega) (by omega)).2.2 i, Option.or_assoc]
        rfl
theorem putS_can : ∀ {P : List PieceD} {x : PieceD} {lo : Int}, Can lo P → lo ≤ x.f0 → 0 < x.f1.size → Can lo (putS P x)
  | [], x, lo, _, h, hs => ⟨h, hs, trivial⟩
  | p :: P, x, lo, hp, h, hs => by
    obtain ⟨p1, p2, p3⟩ := hp
    unfold putS
    by_cases h1 : pE p < x.f0
    · rw [if_pos h1]
      exact ⟨p1, p2, putS_can p3 (by omega) hs⟩
    · rw [if_neg h1]
      by_cases h2 : pE x < p.f0
      · rw [if_pos h2]
        exact ⟨h, hs, by omega, p2, p3⟩
      · rw [if_neg h2]
        obtain ⟨m1, m2, _⟩ := mgS_in (p := p) (x := x) (by omega) (by omega)
        refine putS_can (p3.mono (by unfold pE; omega)) (by omega) ?_
        unfold pE at m2
        omega
theorem putS_hi : ∀ {P : List PieceD} {x : PieceD} {hi : Int}, (∀ p ∈ P, pE p ≤ hi) → pE x ≤ hi → ∀ p ∈ putS P x, pE p ≤ hi
  | [], x, hi, _, h, p, hm => by
    rw [show putS [] x = [x] from rfl, List.mem_singleton] at hm
    rw [hm]
    exact h
  | q :: P, x, hi, hp, h, p, hm => by
    unfold putS at hm
    have hq := hp q List.mem_cons_self
    have hP : ∀ p ∈ P, pE p ≤ hi := fun p h => hp p (List.mem_cons_of_mem _ h)
    by_cases h1 : pE q < x.f0
    · rw [if_pos h1] at hm
      rcases List.mem_cons.1 hm with rfl | hm
      · exact hq
      · exact putS_hi hP h p hm
    · rw [if_neg h1] at hm
      by_cases h2 : pE x < q.f0
      · rw [if_pos h2] at hm
        rcases List.mem_cons.1 hm with rfl | hm
        · exact h
        · exact hp p hm
      · rw [if_neg h2] at hm
        refine putS_hi hP ?_ p hm
        rw [(mgS_in (p := q) (x := x) (by omega) (by omega)).2.1]
        omega
theorem putS_len : ∀ (P : List PieceD) (x : PieceD), (putS P x).length ≤ P.length + 1
  | [], x => Nat.le_refl _
  | p :: P, x => by
    unfold putS
    split
    · exact Nat.succ_le_succ (putS_len P x)
    · split
      · exact Nat.le_refl _
      · exact Nat.le_trans (putS_len P _) (Nat.le_succ _)
end Go.Proofs.Ytagnkelpdgpigaa.Rc
