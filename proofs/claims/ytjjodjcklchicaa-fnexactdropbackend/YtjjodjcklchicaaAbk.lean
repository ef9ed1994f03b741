/-
  Contracts: AddBackend, of both sides.
-/
import Derived.Test.YtjjodjcklchicaaDbk
namespace Go.Proofs.Ytjjodjcklchicaa
open Go.ChangeShapes Go.WideShapes Go.ChangeAt Go.RowKit Go.Deep
set_option linter.unusedVariables false
set_option maxRecDepth 100000

theorem heap_new (w : World) (o : Obj) : (w.alloc o).heap[w.heap.size]? = some o := by
  unfold World.alloc
  exact Array.getElem?_push_size
/-- whether AddBackend says yes -/
def abB (L : List ByteArray) (x : ByteArray) : Bool := glB (tA L) L.length && !decide (L.length = 12) && bkB x && !hsP (tA L) x L.length
/-- what it answers -/
def abM (L : List ByteArray) (x : ByteArray) : List ByteArray := if abB L x = true then insL L (lnP (tA L) x L.length) x else []
theorem ab_no {L : List ByteArray} {x : ByteArray} (h : abB L x = false) : abM L x = [] := by unfold abM; rw [h]; rfl
theorem ab_yes {L : List ByteArray} {x : ByteArray} (h : abB L x = true) : abM L x = insL L (lnP (tA L) x L.length) x := by unfold abM; rw [h]; rfl
theorem ab_0 {L : List ByteArray} {x : ByteArray} (h : glB (tA L) L.length = false) : abB L x = false := by unfold abB; rw [h]; rfl
theorem ab_1 {L : List ByteArray} {x : ByteArray} (h : L.length = 12) : abB L x = false := by unfold abB; rw [decide_eq_true h]; simp
theorem ab_2 {L : List ByteArray} {x : ByteArray} (h : bkB x = false) : abB L x = false := by unfold abB; rw [h]; simp
theorem ab_3 {L : List ByteArray} {x : ByteArray} (h : hsP (tA L) x L.length = true) : abB L x = false := by unfold abB; rw [h]; simp
theorem ab_y {L : List ByteArray} {x : ByteArray} (h0 : glB (tA L) L.length = true) (h1 : ¬ L.length = 12) (h2 : bkB x = true) (h3 : hsP (tA L) x L.length = false) : abB L x = true := by
  unfold abB; rw [h0, decide_eq_false h1, h2, h3]; rfl
set_option maxHeartbeats 1000000 in
theorem implAb (a : Option Addr) (cap : Nat) (L : List ByteArray) (x : ByteArray) (w : World) (hN : L.length ≤ 1048576) (hz : ∀ i, i < L.length → (tA L i).size ≤ 1048576) (hx : x.size ≤ 1048576) (h : Ta w a L) :
    Calls Try.prog 16 #[.slice a L.length cap, .string x] w (Rs (abM L x) (abB L x) w) := by
  have HG := hide (implGL a L.length cap (tA L) w hN hz h)
  have HX := hide (fun W => implGB x W (by unfold maxLen; omega))
  cases hgl : glB (tA L) L.length with
  | false =>
    rw [ab_no (ab_0 hgl), ab_0 hgl]
    rw [hgl] at HG
    clear h hz hgl
    go_enter Try.func16, Try.ntmps16
    go_wp2_with fail
    refine (unhide HG).mono ?_
    rintro e w1 ⟨rfl, e1⟩
    subst w1
    go_wp2
    go_ret2
    exact Rs.none (Below.refl _ _)
  | true =>
    rw [hgl] at HG
    have h12 := gl_12 hgl
    by_cases hl : L.length = 12
    · rw [ab_no (ab_1 hl), ab_1 hl]
      clear h hz hgl
      have hb : ((L.length : Int) == 12) = true := beq_iff_eq.2 (by omega)
      clear hl
      go_enter Try.func16, Try.ntmps16
      go_wp2_with fail
      refine (unhide HG).mono ?_
      rintro e w1 ⟨rfl, e1⟩
      subst w1
      go_wp2
      go_ret2
      exact Rs.none (Below.refl _ _)
    have hb : ((L.length : Int) == 12) = false := beq_eq_false_iff_ne.2 (by omega)
    cases hbk : bkB x with
    | false =>
      rw [ab_no (ab_2 hbk), ab_2 hbk]
      rw [hbk] at HX
      clear h hz hgl hbk
      go_enter Try.func16, Try.ntmps16
      go_wp2_with fail
      refine (unhide HG).mono ?_
      rintro e w1 ⟨rfl, e1⟩
      subst w1
      go_wp2_with fail
      refine (unhide HX _).mono ?_
      rintro e w1 ⟨rfl, e1⟩
      subst w1
      go_wp2
      go_ret2
      exact Rs.none (Below.refl _ _)
    | true =>
    rw [hbk] at HX
    have HB := hide (implBS a L.length cap (tA L) x w hN hgl h)
    cases hhs : hsP (tA L) x L.length with
    | true =>
      rw [ab_no (ab_3 hhs), ab_3 hhs]
      rw [hhs] at HB
      clear h hz hgl hbk hhs
      generalize lnP (tA L) x L.length = k at *
      go_enter Try.func16, Try.ntmps16
      go_wp2_with fail
      refine (unhide HG).mono ?_
      rintro e w1 ⟨rfl, e1⟩
      subst w1
      go_wp2_with fail
      refine (unhide HX _).mono ?_
      rintro e w1 ⟨rfl, e1⟩
      subst w1
      go_wp2_with fail
      refine (unhide HB).mono ?_
      rintro e w2 ⟨rfl, b2⟩
      have B2 := hide b2
      clear b2
      go_wp2
      go_ret2
      exact Rs.none (unhide B2)
    | false =>
    have hy := ab_y hgl hl hbk hhs
    rw [ab_yes hy, hy]
    rw [hhs] at HB
    have hk := (lnP_is (tA L) x L.length).1
    have HO := hide (fun W (q : Below w.heap.size w W) => ownTx a cap L W (by omega) hz (h.kept q))
    have HC := hide (clnT x hx)
    clear h hz hgl hbk hhs hy
    generalize lnP (tA L) x L.length = k at *
    have HI := hide (fun base vb v W hO hb hX hne => implIn base vb v L k x W (by omega) hk hO hb hX hne)
    generalize insL L k x = M at *
    go_enter Try.func16, Try.ntmps16
    go_wp2_with fail
    refine (unhide HG).mono ?_
    rintro e w1 ⟨rfl, e1⟩
    subst w1
    go_wp2_with fail
    refine (unhide HX _).mono ?_
    rintro e w1 ⟨rfl, e1⟩
    subst w1
    go_wp2_with fail
    refine (unhide HB).mono ?_
    rintro e w2 ⟨rfl, b2⟩
    have B2 := hide b2
    clear b2
    go_wp2_with fail
    refine (unhide HO _ (unhide B2)).mono ?_
    rintro e w3 ⟨v, rfl, hO, b3⟩
    have HO3 := hide hO
    have B3 := hide ((unhide B2).trans (b3.mono (unhide B2).size))
    have hz23 := b3.size
    clear hO b3
    go_wp2_with fail
    refine (unhide HC _).mono ?_
    rintro e w4 ⟨rfl, b4⟩
    have hz34 := b4.size
    have HO4 := hide ((unhide HO3).kept b4)
    have HO5 := hide ((unhide HO4).kept ((Below.refl _ _).alloc (Nat.le_refl _) (.cells #[.string x] 9)))
    have B4 := hide ((unhide B3).trans (b4.mono (unhide B3).size))
    have B5 := hide ((unhide B4).alloc (unhide B4).size (.cells #[.string x] 9))
    clear b4
    go_wp2_with fail
    refine (unhide HI w2.heap.size w4.heap.size v _ (unhide HO5) (by simp; omega) (heap_new _ _) (fun g e => Nat.ne_of_gt (World.ownsRow.lt (unhide HO4) g e).2)).mono ?_
    rintro e w6 ⟨a6, c6, rfl, s6, b6⟩
    have S6 := hide (s6.from (unhide B2).size)
    have B6 := hide ((unhide B5).trans (b6.mono (unhide B2).size))
    clear s6 b6
    go_wp2
    go_ret2
    exact ⟨a6, c6, rfl, unhide S6, unhide B6⟩
set_option maxHeartbeats 2000000 in
theorem specAb (a : Option Addr) (cap : Nat) (L : List ByteArray) (x : ByteArray) (w : World) (hN : L.length ≤ 1048576) (hcap : L.length ≤ cap) (hc63 : cap ≤ 9223372036854775807) (ha : a = none ∧ cap = 0 ∨ ∃ b o, a = some ⟨b, o, none⟩) (hz : ∀ i, i < L.length → (tA L i).size ≤ 1048576) (hx : x.size ≤ 1048576) (h : Ta w a L) :
    Calls Try.prog 15 #[.slice a L.length cap, .string x] w (Rs (abM L x) (abB L x) w) := by
  have HA := hide (specAt a L.length cap (tA L) x w hN h)
  have HG := hide (fun W (q : Below w.heap.size w W) => specGL a L.length cap (tA L) W hN hz (h.kept q))
  have HX := hide (fun W => specBk x W (by unfold maxLen; omega))
  cases hgl : glB (tA L) L.length with
  | false =>
    rw [ab_no (ab_0 hgl), ab_0 hgl]
    rw [hgl] at HG
    clear h hz hgl
    generalize lnP (tA L) x L.length = k at *
    generalize hsP (tA L) x L.length = b at *
    go_enter Try.func15, Try.ntmps15
    go_wp2_with fail
    refine (unhide HA).mono ?_
    rintro e w1 ⟨rfl, b1⟩
    have B1 := hide b1
    clear b1
    go_wp2_with fail
    refine (unhide HG _ (unhide B1)).mono ?_
    rintro e w2 ⟨rfl, e2⟩
    subst w2
    go_wp2
    go_ret2
    exact Rs.none (unhide B1)
  | true =>
    rw [hgl] at HG
    have h12 := gl_12 hgl
    cases hhs : hsP (tA L) x L.length with
    | true =>
      rw [ab_no (ab_3 hhs), ab_3 hhs]
      rw [hhs] at HA
      clear h hz hgl hhs
      generalize lnP (tA L) x L.length = k at *
      go_enter Try.func15, Try.ntmps15
      go_wp2_with fail
      refine (unhide HA).mono ?_
      rintro e w1 ⟨rfl, b1⟩
      have B1 := hide b1
      clear b1
      go_wp2_with fail
      refine (unhide HG _ (unhide B1)).mono ?_
      rintro e w2 ⟨rfl, e2⟩
      subst w2
      go_wp2
      go_ret2
      exact Rs.none (unhide B1)
    | false =>
    rw [hhs] at HA
    cases hbk : bkB x with
    | false =>
      rw [ab_no (ab_2 hbk), ab_2 hbk]
      rw [hbk] at HX
      clear h hz hgl hbk hhs
      generalize lnP (tA L) x L.length = k at *
      go_enter Try.func15, Try.ntmps15
      go_wp2_with fail
      refine (unhide HA).mono ?_
      rintro e w1 ⟨rfl, b1⟩
      have B1 := hide b1
      clear b1
      go_wp2_with fail
      refine (unhide HG _ (unhide B1)).mono ?_
      rintro e w2 ⟨rfl, e2⟩
      subst w2
      go_wp2_with fail
      refine (unhide HX _).mono ?_
      rintro e w2 ⟨rfl, e2⟩
      subst w2
      go_wp2
      go_ret2
      exact Rs.none (unhide B1)
    | true =>
    rw [hbk] at HX
    by_cases hl : L.length = 12
    · rw [ab_no (ab_1 hl), ab_1 hl]
      clear h hz hgl hhs hbk
      have hb : ((L.length : Int) == 12) = true := beq_iff_eq.2 (by omega)
      clear hl
      generalize lnP (tA L) x L.length = k at *
      go_enter Try.func15, Try.ntmps15
      go_wp2_with fail
      refine (unhide HA).mono ?_
      rintro e w1 ⟨rfl, b1⟩
      have B1 := hide b1
      clear b1
      go_wp2_with fail
      refine (unhide HG _ (unhide B1)).mono ?_
      rintro e w2 ⟨rfl, e2⟩
      subst w2
      go_wp2_with fail
      refine (unhide HX _).mono ?_
      rintro e w2 ⟨rfl, e2⟩
      subst w2
      go_wp2
      go_ret2
      exact Rs.none (unhide B1)
    have hb : ((L.length : Int) == 12) = false := beq_eq_false_iff_ne.2 (by omega)
    have hy := ab_y hgl hl hbk hhs
    rw [ab_yes hy, hy]
    have hk := (lnP_is (tA L) x L.length).1
    have HH := hide h
    clear h hz hgl hbk hhs hy
    unfold insL
    generalize lnP (tA L) x L.length = k at *
    have hkI : (k : Int) ≤ (L.length : Int) := by omega
    have hic : (k : Int) ≤ (cap : Int) := by omega
    go_enter Try.func15, Try.ntmps15
    go_wp2_with fail
    refine (unhide HA).mono ?_
    rintro e w1 ⟨rfl, b1⟩
    have B1 := hide b1
    clear b1
    go_wp2_with fail
    refine (unhide HG _ (unhide B1)).mono ?_
    rintro e w2 ⟨rfl, e2⟩
    subst w2
    go_wp2_with fail
    refine (unhide HX _).mono ?_
    rintro e w2 ⟨rfl, e2⟩
    subst w2
    have hh := (unhide HH).kept (unhide B1)
    obtain ⟨sa, hsa⟩ : ∃ sa, sa = (if cap = k then a else a.map (fun p => p.add k)) := ⟨_, rfl⟩
    have hl5 : (L.take k).length = k := by rw [List.length_take]; omega
    have hl6 : (L.drop k).length = L.length - k := by rw [List.length_drop]
    have sc5 : Sc w1 a (L.take k).length (tC (L.take k)) := by
      rcases hh with h0 | ⟨b, o, rfl, hr⟩
      · obtain rfl : L = [] := List.length_eq_zero_iff.1 h0
        exact Or.inl ⟨by simp, by simp [tC]⟩
      · exact hr.sc 0 (L.take k) (fun j hj => by rw [hl5] at hj; exact ⟨by omega, by rw [tA_take _ _ _ hj, Nat.zero_add]⟩)
    obtain ⟨v5, w5, hrun5, hO5, b5, _⟩ := appS w1 22 w1.heap.size (.slice none 0 0) [] (Ost.nil _ _) a cap (L.take k) sc5 (by rw [hl5]; show 0 + k ≤ _; omega) (Nat.le_refl _)
    rw [List.nil_append] at hO5
    have A5 : Below w1.heap.size w1 (w5.alloc (.cells #[.string x] 9)) := b5.alloc b5.size _
    obtain ⟨v6, w6, hrun6, hO6, b6, _⟩ := appS (w5.alloc (.cells #[.string x] 9)) 22 w1.heap.size v5 (L.take k) (hO5.kept ((Below.refl _ _).alloc (Nat.le_refl _) _)) (some ⟨w5.heap.size, 0, none⟩) 1 [x] (sc_txt w5 x _) (by rw [hl5]; show k + 1 ≤ _; omega) A5.size
    have A6 := A5.trans b6
    have sc7 : Sc w6 sa (L.drop k).length (tC (L.drop k)) := by
      rw [hsa]
      rcases hh.kept A6 with h0 | ⟨b, o, rfl, hr⟩
      · obtain rfl : L = [] := List.length_eq_zero_iff.1 h0
        exact Or.inl ⟨by simp, by simp [tC]⟩
      · by_cases c9 : cap = k
        · refine Or.inl ⟨by rw [hl6]; omega, ?_⟩
          rw [List.drop_eq_nil_of_le (by omega)]
          rfl
        · rw [if_neg c9]
          have h9 := hr.sc k (L.drop k) (fun j hj => by rw [hl6] at hj; exact ⟨by omega, by rw [tA_drop]⟩)
          show Sc w6 (some ((⟨b, o, none⟩ : Addr).add k)) _ _
          rw [add_non]
          exact h9
    obtain ⟨v7, w7, hrun7, hO7, b7, _⟩ := appS w6 22 w1.heap.size v6 (L.take k ++ [x]) hO6 sa (cap - k) (L.drop k) sc7 (by rw [List.length_append, hl5, hl6]; simp; omega) A6.size
    have A7 := A6.trans b7
    rw [hl5] at hrun5
    rw [hl6] at hrun7
    obtain ⟨a7, c7, e7, hc7, _, s7⟩ := hO7.form
    have FIN : Hid (Sn w.heap.size w7 a7 (L.take k ++ [x] ++ L.drop k).length (tA (L.take k ++ [x] ++ L.drop k)) ∧ Below w.heap.size w w7) := ⟨s7.from (unhide B1).size, (unhide B1).trans (A7.mono (unhide B1).size)⟩
    subst e7
    have RUN5 := hide hrun5
    have RUN6 : Hid ((Builtin.append_ #[22, 22] 22 #[v5, .slice (some ⟨w5.heap.size, 0, none⟩) 1 1]).run Try.prog (w5.alloc (.cells #[.string x] 9)) = .ok v6 w6) := hrun6
    have RUN7 := hide hrun7
    clear hrun5 hrun6 hrun7 hO5 hO6 hO7 A5 A6 A7 b5 b6 b7 hc7 s7 hl5 hl6 sc5 sc7
    generalize L.take k ++ [x] ++ L.drop k = M at *
    clear hh
    rcases ha with ⟨rfl, hc0⟩ | ⟨b, o, rfl⟩
    · obtain rfl : k = 0 := by omega
      obtain rfl : L = [] := List.length_eq_zero_iff.1 (by omega)
      subst hc0
      have e8 : Hid (sa = none) := by
        show _ = _
        rw [hsa, if_pos rfl]
      rw [unhide e8] at RUN7
      clear hsa
      go_wp2_with (first | (at_builtin; refine wpl_app rfl _ _ 22 rfl _ _ _ _ rfl rfl (unhide RUN5) ?_) | (at_builtin; refine wpl_app rfl _ _ 22 rfl _ _ _ _ rfl rfl (unhide RUN6) ?_) | (at_builtin; refine wpl_app rfl _ _ 22 rfl _ _ _ _ rfl rfl (unhide RUN7) ?_))
      all_goals
        go_ret2
        exact ⟨a7, c7, rfl, unhide FIN⟩
    · have e8 : Hid (sa = if cap = k then some (⟨b, o, none⟩ : Addr) else some ⟨b, o + k, none⟩) := by
        show _ = _
        rw [hsa]
        by_cases c9 : cap = k
        · rw [if_pos c9, if_pos c9]
        · rw [if_neg c9, if_neg c9]
          show some ((⟨b, o, none⟩ : Addr).add k) = _
          rw [add_non]
      rw [unhide e8] at RUN7
      clear hsa
      go_wp2_with (first | (at_builtin; refine wpl_app rfl _ _ 22 rfl _ _ _ _ rfl rfl (unhide RUN5) ?_) | (at_builtin; refine wpl_app rfl _ _ 22 rfl _ _ _ _ rfl rfl (unhide RUN6) ?_) | (at_builtin; refine wpl_app rfl _ _ 22 rfl _ _ _ _ rfl rfl (unhide RUN7) ?_))
      all_goals
        go_ret2
        exact ⟨a7, c7, rfl, unhide FIN⟩
theorem dbM_len (L : List ByteArray) (x : ByteArray) : (dbM L x).length ≤ 12 := by
  unfold dbM
  by_cases h : dbB L x = true
  · rw [if_pos h]
    unfold dbB at h
    rw [Bool.and_eq_true] at h
    have := gl_12 h.1
    unfold drL
    rw [List.length_append, List.length_take, List.length_drop]
    omega
  · rw [if_neg h]; exact Nat.zero_le _
theorem abM_len (L : List ByteArray) (x : ByteArray) : (abM L x).length ≤ 13 := by
  by_cases h : abB L x = true
  · rw [ab_yes h]
    unfold abB at h
    rw [Bool.and_eq_true, Bool.and_eq_true, Bool.and_eq_true] at h
    have := gl_12 h.1.1.1
    rw [insL_len L _ x (lnP_is (tA L) x L.length).1]
    omega
  · rw [ab_no (Bool.eq_false_iff.2 h)]; exact Nat.zero_le _
end Go.Proofs.Ytjjodjcklchicaa
