/-
  A stream that is played: what was read is the beginning of what was sent, and done is all of it.
-/
import Derived.Test.YtmicpknilhiliaaStw
namespace Go.Proofs.Ytmicpknilhiliaa.Rc
set_option linter.unusedVariables false

/-- a piece of a text tells the text's bytes -/
def Agr (d : ByteArray) (p : PieceD) : Prop := 0 ≤ p.f0 ∧ pE p ≤ d.size ∧ ∀ i b, by1 p i = some b → d.data[i.toNat]? = some b
theorem agr_cut (d : ByteArray) (a b : Nat) (h : a ≤ b) (hb : b ≤ d.size) : Agr d ⟨a, d.extract a b⟩ ∧ pE ⟨a, d.extract a b⟩ = b := by
  have sz : (d.extract a b).size = b - a := by rw [ByteArray.size_extract]; omega
  have e : pE ⟨(a : Int), d.extract a b⟩ = b := by unfold pE; dsimp only; rw [sz]; omega
  refine ⟨⟨by dsimp only; omega, by rw [e]; omega, fun i c hi => ?_⟩, e⟩
  have h1 := by1_some hi
  rw [e] at h1
  unfold by1 at hi
  dsimp only at hi h1
  rw [if_pos h1.1, ByteArray.data_extract, Array.getElem?_extract, if_pos (by have : d.data.size = d.size := rfl; omega)] at hi
  rw [← hi]
  congr 1
  omega
/-- how a played stream stands: sn: which of the text's places came -/
structure Ord (d : ByteArray) (limit : Int) (D : InflowD) (out : ByteArray) (sn : Int → Prop) (last : Prop) : Prop where
  g : GoodI D
  li : D.li = limit
  re : D.re = out.size
  rd : D.re ≤ d.size
  out : out = d.extract 0 out.size
  agr : ∀ i b, byt D.P i = some b → i < d.size ∧ d.data[i.toNat]? = some b
  cov : ∀ i, 0 ≤ i → (i < D.re ∨ ∃ b, byt D.P i = some b) → sn i
  all : (d.size : Int) ≤ limit → ∀ i, sn i → 0 ≤ i → i < d.size → (i < D.re ∨ ∃ b, byt D.P i = some b)
  top : byt D.P D.re = none
  fin : D.fi = -1 ∨ D.fi = d.size
  f1 : D.fi = d.size → last ∧ (d.size : Int) ≤ limit
  f2 : (d.size : Int) ≤ limit → last → D.fi = d.size
/-- canonical pieces are few -/
theorem can_few : ∀ {P : List PieceD} {lo hi : Int}, Can lo P → (∀ p ∈ P, pE p ≤ hi) → lo ≤ hi + 1 → 2 * (P.length : Int) ≤ hi - lo + 1
  | [], lo, hi, _, _, h => by simp; omega
  | p :: P, lo, hi, hc, hp, h => by
    have h1 := hp p List.mem_cons_self
    have h2 := hc.1
    have h3 := hc.2.1
    have h4 : pE p = p.f0 + p.f1.size := rfl
    have := can_few hc.2.2 (fun q hq => hp q (List.mem_cons_of_mem _ hq)) (by omega)
    simp only [List.length_cons]
    omega
/-- as Ord, ahead of what is read -/
structure Pre (d : ByteArray) (limit : Int) (D : InflowD) (out : ByteArray) (sn : Int → Prop) (last : Prop) : Prop where
  g : GoodI D
  li : D.li = limit
  re : D.re = out.size
  rd : D.re ≤ d.size
  out : out = d.extract 0 out.size
  agr : ∀ i b, byt D.P i = some b → i < d.size ∧ d.data[i.toNat]? = some b
  cov : ∀ i, 0 ≤ i → (i < D.re ∨ ∃ b, byt D.P i = some b) → sn i
  all : (d.size : Int) ≤ limit → ∀ i, sn i → 0 ≤ i → i < d.size → (i < D.re ∨ ∃ b, byt D.P i = some b)
  fin : D.fi = -1 ∨ D.fi = d.size
  f1 : D.fi = d.size → last ∧ (d.size : Int) ≤ limit
  f2 : (d.size : Int) ≤ limit → last → D.fi = d.size
theorem agr_hi {d : ByteArray} {re : Int} {P : List PieceD} (hc : Can re P) (h : ∀ i b, byt P i = some b → i < d.size ∧ d.data[i.toNat]? = some b) : ∀ p ∈ P, pE p ≤ d.size := fun p hp => by
  have hs : 0 < p.f1.size := by
    have : ∀ {Q : List PieceD} {l : Int}, Can l Q → ∀ q ∈ Q, 0 < q.f1.size := by
      intro Q
      induction Q with
      | nil => exact fun _ q hq => by cases hq
      | cons r Q ih =>
        intro l hc q hq
        rcases List.mem_cons.1 hq with rfl | hq
        · exact hc.2.1
        · exact ih hc.2.2 q hq
    exact this hc p hp
  have e : pE p = p.f0 + p.f1.size := rfl
  obtain ⟨b, hb⟩ := by1_in (p := p) (i := pE p - 1) (by omega) (by omega)
  have h1 := h (pE p - 1) b (by rw [byt_of hc hp (by omega) (by omega)]; exact hb)
  omega
theorem pre_take {d : ByteArray} {limit : Int} {D : InflowD} {out : ByteArray} {sn : Int → Prop} {last : Prop} (h : Ord d limit D out sn last) (hd : d.size ≤ 79) {a b : Nat} (hab : a ≤ b) (hb : b ≤ d.size) {fin : Bool} (hf : fin = true → b = d.size) :
    Pre d limit (if tkC D a (d.extract a b) fin = 0 then tkD D a (d.extract a b) fin 0 else D) out (fun i => sn i ∨ (a ≤ i ∧ i < b)) (last ∨ fin = true) := by
  obtain ⟨⟨x0, x1, x2⟩, xe⟩ := agr_cut d a b hab hb
  have ex : (a : Int) + (d.extract a b).size = b := xe
  by_cases hl : (b : Int) ≤ limit
  · have hT : Took D a (d.extract a b) fin := by
      refine ⟨h.g, by omega, by omega, by rw [ByteArray.size_extract]; omega, by rw [ex, h.li]; exact hl, fun hn => ?_, fun hn => ?_, ?_, ?_, ?_⟩
      · rw [ex, hf hn]; exact h.fin
      · rw [ex, hf hn]; exact lE_le (agr_hi h.g.can h.agr) (fun _ => h.rd)
      · rw [ex]
        rcases h.fin with h1 | h1
        · exact Or.inl h1
        · exact Or.inr (by omega)
      · cases hc : clB D.P a (d.extract a b) with
        | false => rfl
        | true =>
          obtain ⟨i, p, q, h1, h2, h3⟩ := clB_yes h.g.can hc
          have h4 := (h.agr i p h1).2
          have h5 := x2 i q h2
          rw [h4] at h5
          exact absurd (Option.some.inj h5) h3
      · have h1 := tkP_can (at' := a) (d := d.extract a b) h.g.can
        have h2 := tkP_hi (at' := a) (d := d.extract a b) (agr_hi h.g.can h.agr) (by rw [ex]; omega)
        have h3 := can_few h1 h2 (by have := h.rd; omega)
        have := h.g.r0
        omega
    rw [if_pos (took_iff.2 hT)]
    have hg := tk_good hT
    have hE : tkD D a (d.extract a b) fin 0 = ⟨D.li, D.re, if fin = true then a + (d.extract a b).size else D.fi, tkP D a (d.extract a b)⟩ := rfl
    rw [hE] at hg ⊢
    rw [ex] at hg ⊢
    have hput : ∀ i, D.re ≤ i → byt (tkP D a (d.extract a b)) i = (by1 ⟨a, d.extract a b⟩ i).or (byt D.P i) := fun i hi => by
      unfold tkP
      by_cases hc : D.re < (a : Int) + (d.extract a b).size ∧ (tkX D.re a (d.extract a b)).f1.size ≠ 0
      · rw [if_pos hc, putS_byt, (tkX_in hc.1).2.2 i hi]
      · rw [if_neg hc]
        have : by1 ⟨a, d.extract a b⟩ i = none := by
          by_cases hr : D.re < (a : Int) + (d.extract a b).size
          · have h0 : (tkX D.re a (d.extract a b)).f1.size = 0 := Classical.byContradiction fun h => hc ⟨hr, h⟩
            obtain ⟨t1, t2, t3⟩ := tkX_in hr
            rw [← t3 i hi]
            have : pE (tkX D.re a (d.extract a b)) = (tkX D.re a (d.extract a b)).f0 := by unfold pE; omega
            by_cases h9 : i < (tkX D.re a (d.extract a b)).f0
            · exact by1_lo h9
            · exact by1_hi (by omega)
          · exact by1_hi (by rw [xe]; omega)
        rw [this, Option.none_or]
    have hlo : ∀ i, i < D.re → byt (tkP D a (d.extract a b)) i = none := fun i hi => byt_lo hg.can hi
    refine ⟨hg, h.li, h.re, h.rd, h.out, fun i c hi => ?_, fun i h0 hi => ?_, fun hs i hi h0 h1 => ?_, ?_, ?_, ?_⟩
    · dsimp only at hi
      by_cases hr : i < D.re
      · rw [hlo i hr] at hi
        cases hi
      · rw [hput i (by omega)] at hi
        cases hx : by1 ⟨(a : Int), d.extract a b⟩ i with
        | some c' =>
          rw [hx] at hi
          have h1 := by1_some hx
          rw [xe] at h1
          exact ⟨by omega, by rw [x2 i c' hx]; exact hi⟩
        | none =>
          rw [hx, Option.none_or] at hi
          exact h.agr i c hi
    · dsimp only at hi
      rcases hi with hi | ⟨c, hc⟩
      · exact Or.inl (h.cov i h0 (Or.inl hi))
      · by_cases hr : i < D.re
        · exact Or.inl (h.cov i h0 (Or.inl hr))
        · rw [hput i (by omega)] at hc
          cases hx : by1 ⟨(a : Int), d.extract a b⟩ i with
          | some c' =>
            have h1 := by1_some hx
            rw [xe] at h1
            exact Or.inr h1
          | none =>
            rw [hx, Option.none_or] at hc
            exact Or.inl (h.cov i h0 (Or.inr ⟨c, hc⟩))
    · dsimp only
      by_cases hr : i < D.re
      · exact Or.inl hr
      · right
        rw [hput i (by omega)]
        rcases hi with hi | hi
        · rcases h.all hs i hi h0 h1 with h2 | ⟨c, hc⟩
          · exact absurd h2 hr
          · cases hx : by1 ⟨(a : Int), d.extract a b⟩ i with
            | some c' => exact ⟨c', rfl⟩
            | none => exact ⟨c, by rw [Option.none_or]; exact hc⟩
        · obtain ⟨c, hc⟩ := by1_in (p := ⟨(a : Int), d.extract a b⟩) (i := i) hi.1 (by rw [xe]; exact hi.2)
          exact ⟨c, by rw [hc]; rfl⟩
    · dsimp only
      by_cases hn : fin = true
      · rw [if_pos hn, hf hn]; exact Or.inr rfl
      · rw [if_neg hn]; exact h.fin
    · dsimp only
      by_cases hn : fin = true
      · exact fun _ => ⟨Or.inr hn, by rw [← hf hn]; exact hl⟩
      · rw [if_neg hn]
        exact fun e => ⟨Or.inl (h.f1 e).1, (h.f1 e).2⟩
    · dsimp only
      intro hs hla
      by_cases hn : fin = true
      · rw [if_pos hn, hf hn]
      · rw [if_neg hn]
        rcases hla with h1 | h1
        · exact h.f2 hs h1
        · exact absurd h1 hn
  · rw [if_neg (fun e => by have h1 := (took_iff.1 e).li; rw [ex, h.li] at h1; exact hl h1)]
    have hs : ¬ (d.size : Int) ≤ limit := by omega
    exact ⟨h.g, h.li, h.re, h.rd, h.out, h.agr, fun i h0 hi => Or.inl (h.cov i h0 hi), fun h1 => absurd h1 hs, h.fin, fun e => absurd (h.f1 e).2 hs, fun h1 => absurd h1 hs⟩
theorem extract_app (d : ByteArray) (a b : Nat) (h : a ≤ b) (hb : b ≤ d.size) (t : ByteArray) (hs : t.size = b - a) (ht : ∀ k, k < b - a → t.data[k]? = d.data[a + k]?) : d.extract 0 a ++ t = d.extract 0 b := by
  have sd : d.data.size = d.size := rfl
  have sa : (d.extract 0 a).data.size = a := by show (d.extract 0 a).size = a; rw [ByteArray.size_extract]; omega
  apply ByteArray.ext
  apply Array.ext
  · show (d.extract 0 a ++ t).size = (d.extract 0 b).size
    rw [ByteArray.size_append, ByteArray.size_extract, ByteArray.size_extract, hs]
    omega
  · intro k h1 h2
    have hk : k < b := by
      have : k < (d.extract 0 b).size := h2
      rw [ByteArray.size_extract] at this
      omega
    apply Option.some.inj
    rw [← Array.getElem?_eq_getElem h1, ← Array.getElem?_eq_getElem h2, ByteArray.data_append, ByteArray.data_extract (b := 0) (e := b), Array.getElem?_extract, if_pos (by omega), Nat.zero_add]
    by_cases hc : k < a
    · rw [Array.getElem?_append_left (by omega), ByteArray.data_extract, Array.getElem?_extract, if_pos (by omega), Nat.zero_add]
    · rw [Array.getElem?_append_right (by omega), sa, ht _ (by omega), show a + (k - a) = k by omega]
theorem pre_read {d : ByteArray} {limit : Int} {D : InflowD} {out : ByteArray} {sn : Int → Prop} {last : Prop} (h : Pre d limit D out sn last) : Ord d limit (rdE D 4000) (out ++ rdO D 4000) sn last := by
  obtain ⟨hg, h1, h2⟩ := rd_good (most := 4000) h.g (by omega)
  have stay : byt D.P D.re = none → rdE D 4000 = D → rdO D 4000 = ⟨#[]⟩ → Ord d limit (rdE D 4000) (out ++ rdO D 4000) sn last := fun ht e1 e2 => by
    rw [e1, e2, show out ++ (⟨#[]⟩ : ByteArray) = out from ByteArray.ext (by rw [ByteArray.data_append]; simp)]
    exact ⟨h.g, h.li, h.re, h.rd, h.out, h.agr, h.cov, h.all, ht, h.fin, h.f1, h.f2⟩
  cases hP : D.P with
  | nil => exact stay (by rw [hP]; rfl) (by unfold rdE; rw [hP]) (by unfold rdO; rw [hP])
  | cons p P =>
    have hc := h.g.can
    rw [hP] at hc
    by_cases hp : p.f0 = D.re
    · have hz : rdN p 4000 = p.f1.size := by
        unfold rdN
        have h3 := (h.g.hi p (by rw [hP]; exact List.mem_cons_self)).1
        have h4 := h.g.l1
        have h5 := h.g.r0
        have e : pE p = p.f0 + p.f1.size := rfl
        rw [if_neg (by omega)]
      have e1 : rdE D 4000 = ⟨D.li, D.re + p.f1.size, D.fi, P⟩ := by
        unfold rdE
        rw [hP]
        dsimp only
        rw [if_pos ⟨hp, by omega⟩, hz]
        unfold rdL
        rw [if_pos rfl]
      have e2 : rdO D 4000 = p.f1 := by
        unfold rdO
        rw [hP]
        dsimp only
        rw [if_pos ⟨hp, by omega⟩, hz]
        exact ByteArray.ext (by rw [ByteArray.data_extract]; exact Array.extract_size)
      rw [e1] at hg
      rw [e1, e2]
      have ep : pE p = p.f0 + p.f1.size := rfl
      have hpi : ∀ i, p.f0 ≤ i → i < pE p → byt D.P i = by1 p i := fun i a b => by rw [hP]; exact byt_head hc (by omega)
      have htl : ∀ i, pE p ≤ i → byt D.P i = byt P i := fun i a => by rw [hP]; exact byt_tail a
      have hle : pE p ≤ d.size := by
        have := agr_hi h.g.can h.agr p (by rw [hP]; exact List.mem_cons_self)
        exact this
      have hr0 := h.g.r0
      have hre := h.re
      refine ⟨hg, h.li, ?_, by dsimp only; omega, ?_, fun i b hi => ?_, fun i h0 hi => ?_, fun hs i hi h0 h3 => ?_, ?_, h.fin, h.f1, h.f2⟩
      · dsimp only
        rw [ByteArray.size_append]
        omega
      · rw [ByteArray.size_append]
        have h9 := extract_app d out.size (out.size + p.f1.size) (by omega) (by omega) p.f1 (by omega) (fun k hk => by
          obtain ⟨b, hb⟩ := by1_in (p := p) (i := p.f0 + k) (by omega) (by omega)
          have h4 := (h.agr (p.f0 + k) b (by rw [hpi _ (by omega) (by omega)]; exact hb)).2
          unfold by1 at hb
          rw [if_pos (by omega), show (p.f0 + (k : Int) - p.f0).toNat = k by omega] at hb
          rw [hb, ← h4]
          congr 1
          omega)
        rw [← h.out] at h9
        exact h9
      · dsimp only at hi
        have : pE p + 1 ≤ i := by
          apply Int.not_lt.1
          intro h4
          rw [byt_lo hc.2.2 (by omega)] at hi
          cases hi
        exact h.agr i b (by rw [htl i (by omega)]; exact hi)
      · dsimp only at hi
        rcases hi with hi | ⟨b, hb⟩
        · by_cases h4 : i < D.re
          · exact h.cov i h0 (Or.inl h4)
          · obtain ⟨b, hb⟩ := by1_in (p := p) (i := i) (by omega) (by omega)
            exact h.cov i h0 (Or.inr ⟨b, by rw [hpi i (by omega) (by omega)]; exact hb⟩)
        · have : pE p + 1 ≤ i := by
            apply Int.not_lt.1
            intro h4
            rw [byt_lo hc.2.2 (by omega)] at hb
            cases hb
          exact h.cov i h0 (Or.inr ⟨b, by rw [htl i (by omega)]; exact hb⟩)
      · dsimp only
        by_cases h4 : i < D.re + p.f1.size
        · exact Or.inl h4
        · right
          rcases h.all hs i hi h0 h3 with h5 | ⟨b, hb⟩
          · omega
          · exact ⟨b, by rw [← htl i (by omega)]; exact hb⟩
      · dsimp only
        exact byt_lo hc.2.2 (by omega)
    · refine stay ?_ (by unfold rdE; rw [hP]; dsimp only; rw [if_neg (fun e => hp e.1)]) (by unfold rdO; rw [hP]; dsimp only; rw [if_neg (fun e => hp e.1)])
      rw [hP]
      have h3 := hc.1
      rw [byt_head hc (by unfold pE; omega)]
      exact by1_lo (by omega)
theorem cut_len (d : ByteArray) : ∀ (L : List Int) (at' : Int), (cutP d at' L).length = L.length + 1
  | [], _ => rfl
  | k :: L, at' => by show (cutP d k L).length + 1 = _; rw [cut_len d L k]; rfl
/-- the pieces of a text that is cut as said -/
theorem cut_at (d : ByteArray) : ∀ (L : List Int) (a : Nat) (fst : Bool), (fst = true → a = 0) → a ≤ d.size → cuB d.size fst a L = true → ∀ j, j < L.length + 1 →
    ∃ x y : Nat, a ≤ x ∧ x ≤ y ∧ y ≤ d.size ∧ gt pieceK (cutP d a L) j = ⟨x, d.extract x y⟩ ∧ (j = L.length → y = d.size) ∧ (j < L.length → x < y ∨ (fst = true ∧ y = 0)) ∧ (j < L.length → (gt pieceK (cutP d a L) (j + 1)).f0 = y) ∧ (j = 0 → x = a)
  | [], a, fst, hf, ha, _, j, hj => by
    have hj0 : j = 0 := by simpa using hj
    subst hj0
    exact ⟨a, d.size, Nat.le_refl _, ha, Nat.le_refl _, rfl, fun _ => rfl, fun h => absurd h (Nat.lt_irrefl _), fun h => absurd h (Nat.lt_irrefl _), fun _ => rfl⟩
  | k :: L, a, fst, hf, ha, hc, j, hj => by
    unfold cuB at hc
    simp only [Bool.and_eq_true, Bool.or_eq_true, decide_eq_true_eq] at hc
    obtain ⟨⟨h0, h1⟩, h2, h3⟩ := hc
    obtain ⟨q, rfl⟩ : ∃ q : Nat, k = q := ⟨k.toNat, by omega⟩
    have hq : q ≤ d.size := by omega
    have haq : a ≤ q := by
      rcases h2 with h2 | h2
      · rw [hf h2]; exact Nat.zero_le _
      · omega
    have rec1 := cut_at d L q false (fun h => by cases h) hq h3
    cases j with
    | zero =>
      refine ⟨a, q, Nat.le_refl _, haq, hq, rfl, fun h => by simp at h, fun _ => ?_, fun _ => ?_, fun _ => rfl⟩
      · rcases h2 with h2 | h2
        · have := hf h2
          by_cases hq0 : q = 0
          · exact Or.inr ⟨h2, hq0⟩
          · exact Or.inl (by omega)
        · exact Or.inl (by omega)
      · obtain ⟨x, y, _, _, _, g4, _, _, _, g8⟩ := rec1 0 (by omega)
        show (gt pieceK (cutP d q L) 0).f0 = q
        rw [g4, g8 rfl]
    | succ j =>
      obtain ⟨x, y, g1, g2, g3, g4, g5, g6, g7, g8⟩ := rec1 j (by simpa using hj)
      exact ⟨x, y, by omega, g2, g3, g4, fun h => g5 (by simpa using h), fun h => (g6 (by simpa using h)).imp id (fun e => by cases e.1), fun h => g7 (by simpa using h), fun h => by cases h⟩
theorem Ord.cong {d : ByteArray} {limit : Int} {D : InflowD} {out : ByteArray} {sn sn' : Int → Prop} {la la' : Prop} (h : Ord d limit D out sn la) (h1 : ∀ i, sn i ↔ sn' i) (h2 : la ↔ la') : Ord d limit D out sn' la' := by
  obtain rfl : sn = sn' := funext fun i => propext (h1 i)
  obtain rfl : la = la' := propext h2
  exact h
/-- a place lies in a piece that was asked for -/
def Snn (PS : List PieceD) (o : List Int) (i : Int) : Prop := ∃ n ∈ o, (0 ≤ n ∧ n ≤ (PS.length : Int) - 1) ∧ (gt pieceK PS n.toNat).f0 ≤ i ∧ i < pE (gt pieceK PS n.toNat)
theorem ord_fold {d : ByteArray} {limit : Int} {cuts : List Int} (hd : d.size ≤ 79) (h0 : 0 ≤ limit) (h1 : limit ≤ 4000) (hc : cuB d.size true ((0 : Nat) : Int) cuts = true) : ∀ (o : List Int) (D : InflowD) (out : ByteArray) (done : List Int),
    Ord d limit D out (Snn (cutP d 0 cuts) done) ((((cutP d 0 cuts).length : Int) - 1) ∈ done) →
    Ord d limit (o.foldl (psS (cutP d 0 cuts)) (D, out)).1 (o.foldl (psS (cutP d 0 cuts)) (D, out)).2 (Snn (cutP d 0 cuts) (done ++ o)) ((((cutP d 0 cuts).length : Int) - 1) ∈ done ++ o)
  | [], D, out, done, h => by rw [List.append_nil]; exact h
  | n :: o, D, out, done, h => by
    have hlen := cut_len d cuts 0
    have step : Ord d limit (psS (cutP d 0 cuts) (D, out) n).1 (psS (cutP d 0 cuts) (D, out) n).2 (Snn (cutP d 0 cuts) (done ++ [n])) ((((cutP d 0 cuts).length : Int) - 1) ∈ done ++ [n]) := by
      unfold psS
      by_cases hn : 0 ≤ n ∧ n ≤ ((cutP d 0 cuts).length : Int) - 1
      · rw [if_pos hn]
        obtain ⟨x, y, g1, g2, g3, g4, g5, _, _, _⟩ := cut_at d cuts 0 true (fun _ => rfl) (Nat.zero_le _) hc n.toNat (by omega)
        have g4' : gt pieceK (cutP d 0 cuts) n.toNat = ⟨x, d.extract x y⟩ := g4
        have he : pE (⟨x, d.extract x y⟩ : PieceD) = y := (agr_cut d x y g2 g3).2
        have hp := pre_take h hd g2 g3 (fin := decide (n = ((cutP d 0 cuts).length : Int) - 1)) (fun e => g5 (by have := of_decide_eq_true e; omega))
        have hr := pre_read hp
        have eT : psT (cutP d 0 cuts) (D, out) n = if tkC D x (d.extract x y) (decide (n = ((cutP d 0 cuts).length : Int) - 1)) = 0 then tkD D x (d.extract x y) (decide (n = ((cutP d 0 cuts).length : Int) - 1)) 0 else D := by
          unfold psT
          rw [g4']
        dsimp only
        rw [eT]
        refine hr.cong (fun i => ?_) ?_
        · constructor
          · rintro (⟨k, hk, hk2⟩ | ⟨hi1, hi2⟩)
            · exact ⟨k, List.mem_append_left _ hk, hk2⟩
            · exact ⟨n, List.mem_append_right _ List.mem_cons_self, hn, by rw [g4']; exact hi1, by rw [g4', he]; exact hi2⟩
          · rintro ⟨k, hk, hk2⟩
            rcases List.mem_append.1 hk with hk | hk
            · exact Or.inl ⟨k, hk, hk2⟩
            · rcases List.mem_singleton.1 hk with rfl
              rw [g4', he] at hk2
              exact Or.inr hk2.2
        · rw [List.mem_append, List.mem_singleton, decide_eq_true_eq]
          exact ⟨fun e => e.imp id (fun e => e.symm), fun e => e.imp id (fun e => e.symm)⟩
      · rw [if_neg hn]
        refine h.cong (fun i => ?_) ?_
        · constructor
          · rintro ⟨k, hk, hk2⟩
            exact ⟨k, List.mem_append_left _ hk, hk2⟩
          · rintro ⟨k, hk, hk2⟩
            rcases List.mem_append.1 hk with hk | hk
            · exact ⟨k, hk, hk2⟩
            · rcases List.mem_singleton.1 hk with rfl
              exact absurd hk2.1 hn
        · rw [List.mem_append, List.mem_singleton]
          exact ⟨Or.inl, fun e => e.resolve_right (fun e => hn (by omega))⟩
    have := ord_fold hd h0 h1 hc o _ _ (done ++ [n]) step
    rw [List.append_assoc] at this
    exact this
theorem ord_start {d : ByteArray} {limit : Int} {PS : List PieceD} {x : Int} (h0 : 0 ≤ limit) (h1 : limit ≤ 4000) : Ord d limit ⟨limit, 0, -1, []⟩ ⟨#[]⟩ (Snn PS []) (x ∈ ([] : List Int)) := by
  refine ⟨⟨h0, h1, Int.le_refl _, h0, Or.inl rfl, Nat.zero_le _, trivial, (fun p hp => by cases hp)⟩, rfl, rfl, by dsimp only; omega, ?_, (fun i b h => by cases h), fun i a h => ?_, fun _ i h => ?_, rfl, Or.inl rfl, fun h => ?_, (fun _ h => by cases h)⟩
  · apply ByteArray.ext
    rw [ByteArray.data_extract]
    simp
    exact Or.inl rfl
  · rcases h with h | ⟨b, h⟩
    · dsimp only at h; omega
    · cases h
  · obtain ⟨n, hn, _⟩ := h
    cases hn
  · dsimp only at h
    omega
/-- pieces of a text that is cut lie side by side -/
theorem cut_side {d : ByteArray} {cuts : List Int} (hc : cuB d.size true ((0 : Nat) : Int) cuts = true) : ∀ {i j : Nat}, i < j → j ≤ cuts.length → pE (gt pieceK (cutP d 0 cuts) i) ≤ (gt pieceK (cutP d 0 cuts) j).f0
  | i, 0, h, _ => absurd h (Nat.not_lt_zero _)
  | i, j + 1, h, hj => by
    obtain ⟨x, y, _, g2, g3, g4, _, _, g7, _⟩ := cut_at d cuts 0 true (fun _ => rfl) (Nat.zero_le _) hc j (by omega)
    have h7 : (gt pieceK (cutP d 0 cuts) (j + 1)).f0 = y := g7 (by omega)
    have g4' : gt pieceK (cutP d 0 cuts) j = ⟨x, d.extract x y⟩ := g4
    have he : pE (gt pieceK (cutP d 0 cuts) j) = y := by rw [g4']; exact (agr_cut d x y g2 g3).2
    by_cases e : i = j
    · subst e
      rw [he, h7]
      exact Int.le_refl _
    · have := cut_side hc (i := i) (j := j) (by omega) (by omega)
      rw [g4'] at this
      rw [h7]
      dsimp only at this
      omega
theorem cut_cover {d : ByteArray} {cuts : List Int} (hc : cuB d.size true ((0 : Nat) : Int) cuts = true) : ∀ (j : Nat), j ≤ cuts.length → ∀ i : Int, 0 ≤ i → i < pE (gt pieceK (cutP d 0 cuts) j) → ∃ k, k ≤ j ∧ (gt pieceK (cutP d 0 cuts) k).f0 ≤ i ∧ i < pE (gt pieceK (cutP d 0 cuts) k)
  | 0, _, i, h0, hi => by
    obtain ⟨x, y, _, _, _, g4, _, _, _, g8⟩ := cut_at d cuts 0 true (fun _ => rfl) (Nat.zero_le _) hc 0 (by omega)
    have g4' : gt pieceK (cutP d 0 cuts) 0 = ⟨x, d.extract x y⟩ := g4
    exact ⟨0, Nat.le_refl _, by rw [g4', g8 rfl]; exact h0, hi⟩
  | j + 1, hj, i, h0, hi => by
    by_cases hx : (gt pieceK (cutP d 0 cuts) (j + 1)).f0 ≤ i
    · exact ⟨j + 1, Nat.le_refl _, hx, hi⟩
    · obtain ⟨x, y, _, g2, g3, g4, _, _, g7, _⟩ := cut_at d cuts 0 true (fun _ => rfl) (Nat.zero_le _) hc j (by omega)
      have h7 : (gt pieceK (cutP d 0 cuts) (j + 1)).f0 = y := g7 (by omega)
      have g4' : gt pieceK (cutP d 0 cuts) j = ⟨x, d.extract x y⟩ := g4
      have he : pE (gt pieceK (cutP d 0 cuts) j) = y := by rw [g4']; exact (agr_cut d x y g2 g3).2
      obtain ⟨k, hk, h⟩ := cut_cover hc j (by omega) i h0 (by omega)
      exact ⟨k, by omega, h⟩
/-- WHAT FnOrdered ASKS -/
theorem ordered {d : ByteArray} {limit : Int} {cuts order : List Int} (hd : d.size ≤ 79) (hB : psB d limit cuts order = true) (hpos : ∀ k L, cuts = k :: L → 0 < k) :
    (psF (cutP d 0 cuts) limit order).2 = d.extract 0 (psF (cutP d 0 cuts) limit order).2.size ∧ (psF (cutP d 0 cuts) limit order).2.size ≤ d.size ∧ ((psF (cutP d 0 cuts) limit order).2.size : Int) ≤ limit ∧
    ((psF (cutP d 0 cuts) limit order).1.fi = (psF (cutP d 0 cuts) limit order).1.re → (psF (cutP d 0 cuts) limit order).2 = d) ∧
    (limit < d.size → (psF (cutP d 0 cuts) limit order).1.fi ≠ (psF (cutP d 0 cuts) limit order).1.re) ∧
    ((d.size : Int) ≤ limit → ((psF (cutP d 0 cuts) limit order).1.fi = (psF (cutP d 0 cuts) limit order).1.re ↔ ∀ j : Nat, j ≤ cuts.length → (j : Int) ∈ order)) := by
  unfold psB at hB
  simp only [Bool.and_eq_true, decide_eq_true_eq] at hB
  obtain ⟨hl, _, _, _, hc⟩ := hB
  unfold niB at hl
  simp only [Bool.and_eq_true, decide_eq_true_eq] at hl
  have hc' : cuB d.size true ((0 : Nat) : Int) cuts = true := hc
  have hlen := cut_len d cuts 0
  have F := ord_fold hd hl.1 hl.2 hc' order _ _ [] (ord_start (d := d) (PS := cutP d 0 cuts) (x := ((cutP d 0 cuts).length : Int) - 1) hl.1 hl.2)
  rw [List.nil_append] at F
  change Ord d limit (psF (cutP d 0 cuts) limit order).1 (psF (cutP d 0 cuts) limit order).2 _ _ at F
  generalize psF (cutP d 0 cuts) limit order = st at *
  obtain ⟨D, out⟩ := st
  dsimp only at *
  have hr0 := F.g.r0
  have hr1 := F.g.r1
  have hre := F.re
  have hrd := F.rd
  have hli := F.li
  have hfin : D.fi = D.re → D.fi = d.size := fun e => F.fin.resolve_left (by omega)
  refine ⟨F.out, by omega, by omega, fun e => ?_, fun hlt e => ?_, fun hs => ⟨fun e j hj => ?_, fun ha => ?_⟩⟩
  · have := hfin e
    rw [F.out, show out.size = d.size by omega]
    exact ByteArray.ext (by rw [ByteArray.data_extract]; exact Array.extract_size)
  · have := (F.f1 (hfin e)).2
    omega
  · have h1 := hfin e
    by_cases hj2 : j = cuts.length
    · have := (F.f1 h1).1
      rw [show (j : Int) = ((cutP d 0 cuts).length : Int) - 1 by omega]
      exact this
    · obtain ⟨x, y, _, g2, g3, g4, _, g6, _, g8⟩ := cut_at d cuts 0 true (fun _ => rfl) (Nat.zero_le _) hc' j (by omega)
      have g4' : gt pieceK (cutP d 0 cuts) j = ⟨x, d.extract x y⟩ := g4
      have he : pE (gt pieceK (cutP d 0 cuts) j) = y := by rw [g4']; exact (agr_cut d x y g2 g3).2
      have hxy : x < y := by
        rcases g6 (by omega) with h | ⟨_, h⟩
        · exact h
        · exfalso
          cases cuts with
          | nil => exact absurd (Nat.le_zero.1 hj) hj2
          | cons k L =>
            have hk := hpos k L rfl
            have h0 : j = 0 := by
              apply Classical.byContradiction
              intro hne
              have h5 := cut_side hc' (i := 0) (j := j) (by omega) hj
              have h6 : pE (gt pieceK (cutP d 0 (k :: L)) 0) = k := by
                obtain ⟨q, rfl⟩ : ∃ q : Nat, k = q := ⟨k.toNat, by omega⟩
                have hq : q ≤ d.size := by
                  unfold cuB at hc
                  simp only [Bool.and_eq_true, decide_eq_true_eq] at hc
                  omega
                exact (agr_cut d 0 q (Nat.zero_le _) hq).2
              rw [h6, g4'] at h5
              dsimp only at h5
              omega
            subst h0
            obtain ⟨q, rfl⟩ : ∃ q : Nat, k = q := ⟨k.toNat, by omega⟩
            have hq : q ≤ d.size := by
              unfold cuB at hc
              simp only [Bool.and_eq_true, decide_eq_true_eq] at hc
              omega
            have h6 : pE (gt pieceK (cutP d 0 ((q : Int) :: L)) 0) = q := (agr_cut d 0 q (Nat.zero_le _) hq).2
            omega
      obtain ⟨n, hn, hn2, hn3, hn4⟩ := F.cov x (by omega) (Or.inl (by omega))
      have : n.toNat = j := by
        rcases Nat.lt_trichotomy n.toNat j with h | h | h
        · have := cut_side hc' h hj
          rw [g4'] at this
          dsimp only at this
          omega
        · exact h
        · have := cut_side hc' h (by omega)
          omega
      rw [show (j : Int) = n by omega]
      exact hn
  · have hlast : ((cutP d 0 cuts).length : Int) - 1 ∈ order := by
      have := ha cuts.length (Nat.le_refl _)
      rw [show ((cutP d 0 cuts).length : Int) - 1 = (cuts.length : Int) by omega]
      exact this
    have h1 := F.f2 hs hlast
    apply Classical.byContradiction
    intro hne
    have hlt : D.re < d.size := by omega
    obtain ⟨x, y, _, g2, g3, g4, g5, _, _, _⟩ := cut_at d cuts 0 true (fun _ => rfl) (Nat.zero_le _) hc' cuts.length (by omega)
    have g4' : gt pieceK (cutP d 0 cuts) cuts.length = ⟨x, d.extract x y⟩ := g4
    have he : pE (gt pieceK (cutP d 0 cuts) cuts.length) = y := by rw [g4']; exact (agr_cut d x y g2 g3).2
    obtain ⟨k, hk, hk1, hk2⟩ := cut_cover hc' cuts.length (Nat.le_refl _) D.re hr0 (by rw [he, g5 rfl]; exact hlt)
    rcases F.all hs D.re ⟨(k : Int), ha k hk, ⟨by omega, by omega⟩, hk1, hk2⟩ hr0 hlt with h | ⟨b, hb⟩
    · omega
    · rw [F.top] at hb
      cases hb
end Go.Proofs.Ytmicpknilhiliaa.Rc
