/-
  Contracts: the model's InstallConfig.
-/
import Derived.Test.YtcpccdejhmaenaaSrm
import Derived.Test.YtcpccdejhmaenaaInc
namespace Go.Proofs.Ytcpccdejhmaenaa
open Go.ChangeShapes Go.WideShapes Go.ChangeAt Go.RowKit Go.Deep
set_option linter.unusedVariables false
set_option maxRecDepth 100000

theorem rI_map (R : List EnR) (L : List EnD) (h : R.map (·.D) = L) (i : Nat) (r : EnR) : (R.take i ++ [r] ++ R.drop i).map (·.D) = isE L i r.D := by
  unfold isE; rw [← h, List.map_append, List.map_append, List.map_take, List.map_drop]; simp
/-- the three appends of the model -/
theorem insTail {w wc : World} {base : Nat} (a2 : Option Addr) (c2 : Nat) (L : List EnD) (R : List EnR) (p : Nat) (sl sv nc : Int) (k : ByteArray) (t : Bool) (hp : p ≤ L.length) (hL3 : L.length ≤ 3) (hRL : R.length = L.length) (hR : R.map (·.D) = L)
    (hO : Oe base wc (.slice a2 L.length c2) R) (hP : ∀ r ∈ R, Pr wc (.slice a2 L.length c2) r) (hR6 : Bx wc (w.heap.size + 1 + 1) [.slice none 0 0]) (hB : Below w.heap.size w wc) (hb : w.heap.size + 1 + 1 < base)
    (s1 s2 : Option Addr) (h1 : Sc wc s1 p (enC (R.take p))) (h2 : ∀ W, Below wc.heap.size wc W → Sc W s2 (L.length - p) (enC (R.drop p))) (c1 c3 : Nat) :
    ∃ v5 w5 v6 w6 a7 c7 w7, (Builtin.append_ #[29, 29] 29 #[.slice none 0 0, .slice s1 p c1]).run Try.prog wc = .ok v5 w5 ∧
      (Builtin.append_ #[29, 29] 29 #[v5, .slice (some ⟨w5.heap.size, 0, none⟩) 1 1]).run Try.prog (w5.alloc (.cells #[.int .i64 sl, .int .i64 sv, .int .i64 nc, .string k, .bool t, .slice none 0 0, .int .i64 0] 48)) = .ok v6 w6 ∧
      (Builtin.append_ #[29, 29] 29 #[v6, .slice s2 (L.length - p) c3]).run Try.prog w6 = .ok (.slice a7 (L.length + 1) c7) w7 ∧
      Below wc.heap.size wc w5 ∧ Below wc.heap.size wc w6 ∧ Below wc.heap.size wc w7 ∧
      Ea (w7.setCell ⟨w.heap.size + 1 + 1, 0, none⟩ (.slice a7 (L.length + 1) c7)) a7 (isE L p ⟨sl, sv, nc, k, t, [], 0⟩) := by
  have hl5 : (R.take p).length = p := by rw [List.length_take]; omega
  have hl7 : (R.drop p).length = L.length - p := by rw [List.length_drop]; omega
  obtain ⟨v5, w5, r5, o5, g5, b5⟩ := appE wc 29 wc.heap.size (.slice none 0 0) [] (Oe.nil _ _) s1 c1 (R.take p) (by rw [hl5]; exact h1) (by rw [hl5]; simp; omega) (Nat.le_refl _)
  rw [hl5] at r5
  rw [List.nil_append] at o5
  have A5 : Below wc.heap.size wc w5 := grown_below g5 (Nat.le_refl _) (fun q e => by simp [Value.ownBlock] at e)
  have AL : Below w5.heap.size w5 (w5.alloc (.cells #[.int .i64 sl, .int .i64 sv, .int .i64 nc, .string k, .bool t, .slice none 0 0, .int .i64 0] 48)) := (Below.refl _ _).alloc (Nat.le_refl _) _
  obtain ⟨v6, w6, r6, o6, g6, b6⟩ := appE (w5.alloc (.cells #[.int .i64 sl, .int .i64 sv, .int .i64 nc, .string k, .bool t, .slice none 0 0, .int .i64 0] 48)) 29 wc.heap.size v5 (R.take p) (o5.below AL) (some ⟨w5.heap.size, 0, none⟩) 1 [EnR.mk ⟨sl, sv, nc, k, t, [], 0⟩ none 0] (sc_en w5 (EnR.mk ⟨sl, sv, nc, k, t, [], 0⟩ none 0) _) (by rw [hl5]; show p + 1 ≤ _; omega) (Nat.le_trans A5.size AL.size)
  have A6 : Below wc.heap.size wc w6 := (A5.trans (AL.mono A5.size)).trans (grown_below g6 (Nat.le_trans A5.size AL.size) (fun q e => (World.ownsRow.lt o5 q e).1))
  obtain ⟨v7, w7, r7, o7, g7, b7⟩ := appE w6 29 wc.heap.size v6 (R.take p ++ [EnR.mk ⟨sl, sv, nc, k, t, [], 0⟩ none 0]) o6 s2 c3 (R.drop p) (by rw [hl7]; exact h2 w6 A6) (by rw [List.length_append, hl5, hl7]; show p + 1 + _ ≤ _; omega) A6.size
  rw [hl7] at r7
  have A7 : Below wc.heap.size wc w7 := A6.trans (grown_below g7 A6.size (fun q e => (World.ownsRow.lt o6 q e).1))
  obtain ⟨a7, c7, e7, _, _⟩ := o7.form
  have hl8 : (R.take p ++ [EnR.mk ⟨sl, sv, nc, k, t, [], 0⟩ none 0] ++ R.drop p).length = L.length + 1 := by rw [List.length_append, List.length_append, hl5, hl7]; show p + 1 + _ = _; omega
  rw [hl8] at e7
  subst e7
  have P5 : ∀ r ∈ R, Pr w5 v5 r := fun r hr => Pr.grown (w := wc) (v := .slice none 0 0) ⟨(hP r hr).1, (hP r hr).2.imp id fun ⟨g', q1, q2, q3⟩ => ⟨g', q1, q2, fun e => by simp [Value.ownBlock] at e⟩⟩ g5 b5
  have P6 : ∀ r ∈ R.take p ++ [EnR.mk ⟨sl, sv, nc, k, t, [], 0⟩ none 0] ++ R.drop p, Pr w6 v6 r := fun r hr => by
    have h9 : r ∈ R ∨ r = EnR.mk ⟨sl, sv, nc, k, t, [], 0⟩ none 0 := by
      rcases List.mem_append.1 hr with h | h
      · rcases List.mem_append.1 h with h | h
        · exact Or.inl (List.mem_of_mem_take h)
        · exact Or.inr (by simpa using h)
      · exact Or.inl (List.mem_of_mem_drop h)
    rcases h9 with h9 | rfl
    · exact ((P5 r h9).below AL).grown g6 b6
    · exact ⟨Nat.zero_le _, Or.inl rfl⟩
  have P7 : ∀ r ∈ R.take p ++ [EnR.mk ⟨sl, sv, nc, k, t, [], 0⟩ none 0] ++ R.drop p, Pr w7 (.slice a7 (L.length + 1) c7) r := fun r hr => (P6 r hr).grown g7 b7
  refine ⟨v5, w5, v6, w6, a7, c7, w7, r5, r6, r7, A5, A6, A7, ?_⟩
  have := ea_box (hR6.below A7) o7 (by have := hR6.lt; omega) P7 (.slice a7 (L.length + 1) c7)
  rw [rI_map R L hR p] at this
  exact this
set_option maxHeartbeats 8000000 in
theorem specIn (a : Option Addr) (cap : Nat) (L : List EnD) (sl sv nc : Int) (k : ByteArray) (t : Bool) (w : World) (hs : (Lit.int .i64 sl).wf = true) (hG : okE L) (hS : ∀ i, i < L.length → (eA L i).S.length ≤ 1048576) (h : Ea w a L) :
    Calls Try.prog 7 #[.agg #[.slice a L.length cap], kv sl sv nc k t] w fun e w' => ∃ L' c a' cap', inP L sl sv nc k t L' c ∧ e = .returned (.tuple #[.agg #[.slice a' L'.length cap'], .int .i64 c]) ∧ Ea w' a' L' ∧ Below w.heap.size w w' := by
  have AL : Below w.heap.size w (((w.alloc (.cells #[.slice a L.length cap] 31)).alloc (.cells #[.int .i64 sl, .int .i64 sv, .int .i64 nc, .string k, .bool t] 35)).alloc (.cells #[.slice none 0 0] 31)) := (((Below.refl _ _).alloc (Nat.le_refl _) _).alloc (by simp) _).alloc (by simp; omega) _
  have HAL := hide AL
  have HG := hide (specGT a cap L _ hG hS (h.below AL))
  cases hgt : gtB L with
  | false =>
    have HP : Hid (inP L sl sv nc k t [] 1) := Or.inl ⟨hgt, rfl, rfl⟩
    rw [hgt] at HG
    clear h hG hS hgt AL
    go_enter Try.func7, Try.ntmps7
    go_wp2_with fail
    refine (unhide HG).mono ?_
    rintro e w1 ⟨rfl, b1⟩
    have R1 : Bx w1 (w.heap.size + 1 + 1) [.slice none 0 0] := (Bx.newAt ((w.alloc _).alloc _) _ _ _ (by simp)).below b1
    have B1 := hide ((unhide HAL).trans (b1.mono (unhide HAL).size))
    have r1 := R1.cv
    have r2 := R1.fz
    clear R1 b1
    go_wp2
    refine bodyPost_ret (v := .tuple #[.agg #[.slice none 0 0], .int .i64 1]) (by simp [results, Try.results7, go_sem, r1]) rfl ⟨[], 1, none, 0, unhide HP, rfl, Or.inl rfl, ?_⟩
    exact (unhide B1).setCell (by simp; omega) _
  | true =>
    obtain ⟨hL3, hu, hwf⟩ := gt_facts hgt
    rw [hgt] at HG
    have HGT := hide hgt
    have HO := hide (fun W (b : Below w.heap.size w W) => ownTb a cap L W (by omega) (fun i hi => by have := gt_len hgt i hi; omega) (h.below b))
    have HU := hide hu
    clear h hG hS hgt hwf hu AL
    go_enter Try.func7, Try.ntmps7
    go_wp2_with fail
    refine (unhide HG).mono ?_
    rintro e w1 ⟨rfl, b1⟩
    have T1 : Bx w1 w.heap.size [.slice a L.length cap] := (((Bx.new w _ _).alloc _).alloc _).below b1
    have C1 : Bx w1 (w.heap.size + 1) [.int .i64 sl, .int .i64 sv, .int .i64 nc, .string k, .bool t] := ((Bx.newAt (w.alloc _) _ _ _ (by simp)).alloc _).below b1
    have R1 : Bx w1 (w.heap.size + 1 + 1) [.slice none 0 0] := (Bx.newAt ((w.alloc _).alloc _) _ _ _ (by simp)).below b1
    have B1 := hide ((unhide HAL).trans (b1.mono (unhide HAL).size))
    have HR := hide R1
    have HT := hide T1
    have HCb := hide C1
    have t1 := T1.cv
    have hsz1 := R1.lt
    clear R1 T1 C1 b1
    go_wp2_with fail
    refine (unhide HO _ (unhide B1)).mono ?_
    rintro e w2 ⟨v, R, rfl, hO2, hR2, hP2, b2⟩
    obtain ⟨a2, c2, e2, hc2, hf2⟩ := hO2.form
    have hRL : R.length = L.length := by have := congrArg List.length hR2; simpa using this
    rw [hRL] at e2 hc2
    subst e2
    have hz2 := b2.size
    obtain ⟨w3, hw3⟩ : ∃ w3, w3 = w2.setCell ⟨w.heap.size, 0, none⟩ (.slice a2 L.length c2) := ⟨_, rfl⟩
    have T3 : Bx w3 w.heap.size [.slice a2 L.length c2] := by rw [hw3]; exact ((unhide HT).below b2).set (i := 0) (by simp)
    have C3 : Bx w3 (w.heap.size + 1) [.int .i64 sl, .int .i64 sv, .int .i64 nc, .string k, .bool t] := by rw [hw3]; exact ((unhide HCb).below b2).other (by omega)
    have R3 : Bx w3 (w.heap.size + 1 + 1) [.slice none 0 0] := by rw [hw3]; exact ((unhide HR).below b2).other (by omega)
    have B3 : Below w.heap.size w w3 := by rw [hw3]; exact ((unhide B1).trans (b2.mono (unhide B1).size)).setCell (Nat.le_refl _) _
    have O3 : Oe (w1.heap.size + 1 + 1) w3 (.slice a2 L.length c2) R := by
      refine ⟨hO2.1, ?_⟩
      rcases hO2.2 with q | ⟨g9, cap9, cur9, q1, q2, q3, q4⟩
      · exact Or.inl q
      · exact Or.inr ⟨g9, cap9, cur9, q1, q2, (by rw [hw3]; exact (Below.heap_setCell w2 ⟨w.heap.size, 0, none⟩ _ g9 (by show g9 ≠ w.heap.size; omega)).trans q3), q4⟩
    have P3 : ∀ r ∈ R, Pr w3 (.slice a2 L.length c2) r := fun r hr => by
      refine ⟨(hP2 r hr).1, ?_⟩
      rcases (hP2 r hr).2 with q | ⟨g, q1, q2, q3⟩
      · exact Or.inl q
      · by_cases hS9 : r.D.S = []
        · exact Or.inl hS9
        refine Or.inr ⟨g, q1, q2.move (by rw [hw3]; simp) (fun j => ?_), q3⟩
        rw [hw3]
        refine set_blk (fun e9 => ?_)
        have h1 := q2.ci 0 (List.length_pos_iff.2 hS9)
        rw [← e9, ((unhide HT).below b2).cv] at h1
        simp at h1
    have HF := hide (And.intro O3 (And.intro P3 (And.intro hR2 (And.intro T3 (And.intro C3 (And.intro R3 B3))))))
    have t2c := ((unhide HT).below b2).cv
    have t2f := ((unhide HT).below b2).fz
    have c3 := C3.cv
    have hcl := C3.lt
    have HRL := hide hRL
    have hz3 : w3.heap.size = w2.heap.size := by rw [hw3]; simp
    have HC := hide (specGC sl sv nc k t)
    clear hO2 hP2 hR2 b2 O3 P3 T3 C3 R3 B3 t1 hf2 hRL hz2
    subst hw3
    go_wp2_with fail
    refine (unhide HC _).mono ?_
    rintro e w4 ⟨rfl, b4⟩
    generalize w2.setCell ⟨w.heap.size, 0, none⟩ (.slice a2 L.length c2) = w3 at *
    obtain ⟨O3, P3, hR3m, T3, C3, R3, B3⟩ := unhide HF
    have T4 := T3.below b4
    have C4 := C3.below b4
    have R4 := R3.below b4
    have O4 := O3.below b4
    have P4 : ∀ r ∈ R, Pr w4 (.slice a2 L.length c2) r := fun r hr => (P3 r hr).below b4
    have B4 := B3.trans (b4.mono B3.size)
    have hz4 := R4.lt
    have HGC : Hid (∀ c, ((gcB sl sv nc k.size && decide (sl < 3)) = c) → (gcB sl sv nc k.size && decide (sl < 3)) = c) := fun c h => h
    clear O3 P3 T3 C3 R3 B3 HF b4 t2c t2f c3 hcl HG HO HR HT HCb B1 hz3 HC HAL
    have FINB : Hid (Ea (w4.setCell ⟨w.heap.size + 1 + 1, 0, none⟩ (.slice a2 L.length c2)) a2 L ∧ Below w.heap.size w (w4.setCell ⟨w.heap.size + 1 + 1, 0, none⟩ (.slice a2 L.length c2))) := by
      refine ⟨?_, B4.setCell (by show w.heap.size ≤ w.heap.size + 1 + 1; omega) _⟩
      have := ea_box R4 O4 (by omega) P4 (.slice a2 L.length c2)
      rw [hR3m] at this
      exact this
    have t1 := T4.cv
    have htl := T4.lt
    have c1 := C4.cv
    have r1 := R4.cv
    have r2 := R4.fz
    cases hgc : gcB sl sv nc k.size with
    | false =>
      have HP : Hid (inP L sl sv nc k t L 1) := Or.inr (Or.inl ⟨unhide HGT, by rw [hgc]; rfl, rfl, rfl⟩)
      clear T4 C4 R4 O4 P4 B4 HGC hgc
      go_wp2
      refine bodyPost_ret (v := .tuple #[.agg #[.slice a2 L.length c2], .int .i64 1]) (by simp [results, Try.results7, go_sem, r1]) rfl ⟨L, 1, a2, c2, unhide HP, rfl, unhide FINB⟩
    | true =>
      by_cases h3 : sl < 3
      case neg =>
        have HP : Hid (inP L sl sv nc k t L 1) := Or.inr (Or.inl ⟨unhide HGT, by rw [hgc, decide_eq_false h3]; rfl, rfl, rfl⟩)
        have h3' : 3 ≤ sl := by omega
        clear T4 C4 R4 O4 P4 B4 HGC hgc h3
        go_wp2
        refine bodyPost_ret (v := .tuple #[.agg #[.slice a2 L.length c2], .int .i64 1]) (by simp [results, Try.results7, go_sem, r1]) rfl ⟨L, 1, a2, c2, unhide HP, rfl, unhide FINB⟩
      have hgood : Hid ((gcB sl sv nc k.size && decide (sl < 3)) = true) := by show _ = _; rw [hgc, decide_eq_true h3]; rfl
      have h3' : ¬ 3 ≤ sl := by omega
      have h3d : decide (3 ≤ sl) = false := decide_eq_false h3'
      have HAT := hide (atTb a2 c2 L sl w4 (by omega) (by have := er_of rfl O4 P4; rw [hR3m] at this; exact this.2))
      have HALL := hide (And.intro O4 (And.intro P4 (And.intro hR3m (And.intro T4 (And.intro C4 (And.intro R4 B4))))))
      clear T4 C4 R4 O4 P4 B4 HGC hgc h3 FINB h3'
      go_wp2_with fail
      refine (unhide HAT).mono ?_
      rintro e w5 ⟨j, rfl, hj, b5⟩
      obtain ⟨O4, P4, hR3m, T4, C4, R4, B4⟩ := unhide HALL
      have T5 := T4.below b5
      have C5 := C4.below b5
      have R5 := R4.below b5
      have O5 := O4.below b5
      have P5 : ∀ r ∈ R, Pr w5 (.slice a2 L.length c2) r := fun r hr => (P4 r hr).below b5
      have B5 := B4.trans (b5.mono B4.size)
      have hz5 := R5.lt
      clear O4 P4 T4 C4 R4 B4 HALL b5 t1 c1 r1 r2 HAT h3d
      have t1 := T5.cv
      have htl := T5.lt
      have c1 := C5.cv
      have r1 := R5.cv
      have r2 := R5.fz
      rcases hj with ⟨rfl, hno⟩ | ⟨i, hi, his, rfl⟩
      case inr =>
        have HP : Hid (inP L sl sv nc k t L 3) := Or.inr (Or.inr (Or.inl ⟨unhide HGT, unhide hgood, ⟨i, hi, his⟩, rfl, rfl⟩))
        have FIN3 : Hid (Ea (w5.setCell ⟨w.heap.size + 1 + 1, 0, none⟩ (.slice a2 L.length c2)) a2 L ∧ Below w.heap.size w (w5.setCell ⟨w.heap.size + 1 + 1, 0, none⟩ (.slice a2 L.length c2))) := by
          refine ⟨?_, B5.setCell (by show w.heap.size ≤ w.heap.size + 1 + 1; omega) _⟩
          have := ea_box R5 O5 (by omega) P5 (.slice a2 L.length c2)
          rw [hR3m] at this
          exact this
        have hi0 : (0 : Int) ≤ (i : Int) := by omega
        clear T5 C5 R5 O5 P5 B5 hgood his
        go_wp2
        refine bodyPost_ret (v := .tuple #[.agg #[.slice a2 L.length c2], .int .i64 3]) (by simp [results, Try.results7, go_sem, r1]) rfl ⟨L, 3, a2, c2, unhide HP, rfl, unhide FIN3⟩
      have HALL := hide (And.intro O5 (And.intro P5 (And.intro hR3m (And.intro T5 (And.intro C5 (And.intro R5 B5))))))
      have HNO := hide hno
      clear T5 C5 R5 O5 P5 B5 hno
      go_wp2_with fail
      clear t1 c1 r1 r2
      go_loopw [6] (fun v wr => ∃ p : Nat, v = .int .i64 p ∧ p ≤ L.length ∧ (∀ i, i < p → (eA L i).sl < sl) ∧ Below w5.heap.size w5 wr) (fun v _ => L.length - (intOf v).toNat)
      case atStart => exact ⟨0, rfl, Nat.zero_le _, fun i hi => absurd hi (Nat.not_lt_zero _), Below.refl _ _⟩
      case round =>
        obtain ⟨p, rfl, hp, hlow, hbr⟩ := hrel
        obtain ⟨O5, P5, hR3m, T5, C5, R5, B5⟩ := unhide HALL
        have t1 := (T5.below hbr).cv
        have htl1 := (T5.below hbr).lt
        have c1 := (C5.below hbr).cv
        have hcl1 := (C5.below hbr).lt
        have HL := hide hlow
        have HB := hide hbr
        go_upto_region 9 with fail
        go_cut [45] (fun s45 wx => (∃ b : Bool, s45 = .bool b ∧ (b = true → p < L.length ∧ (eA L p).sl < sl) ∧ (b = false → plE L p sl)) ∧ Below w5.heap.size w5 wx)
        case first =>
          by_cases hlt : p < L.length
          · obtain ⟨a2', c2', e2', _, hf⟩ := O5.form
            injection e2' with q1 q2 q3
            subst q1 q3
            have hRL := unhide HRL
            rcases hf with hf | ⟨g, hga, hgb, hgl, hgf, hce⟩
            · rw [hf] at hRL; simp at hRL; omega
            subst hga
            have hc0 := (hce p (by omega)).c0
            rw [((rA_map R L hR3m).2 p hlt).1] at hc0
            have d0 := (hbr.cell (p := ⟨g, p * 7, none⟩) hgl).trans hc0
            have hnk : (p : Int) < (L.length : Int) := by omega
            have hp0 : (0 : Int) ≤ (p : Int) := by omega
            by_cases hc : (eA L p).sl < sl
            · have F : Hid (p < L.length ∧ (eA L p).sl < sl) := ⟨hlt, hc⟩
              clear O5 P5 hR3m T5 C5 R5 B5 hc0 hce hgf hRL q2 hlow hbr hlt
              generalize (eA L p).sl = sp at *
              go_quiet (fail)
              go_wp2_with fail
              go_meet
              exact ⟨⟨true, rfl, fun _ => unhide F, (fun h => by cases h)⟩, below_drewN (unhide HB) _⟩
            · have F : Hid (plE L p sl) := by
                refine ⟨hp, hlow, fun i h1 h2 => ?_⟩
                have h3 := unhide HNO i h2
                by_cases e9 : i = p
                · rw [e9] at h3 ⊢; omega
                · have := up_lt (unhide HU) p i (by omega) h2; omega
              have hcd : decide ((eA L p).sl < sl) = false := decide_eq_false hc
              clear O5 P5 hR3m T5 C5 R5 B5 hc0 hce hgf hRL q2 hlow hbr hlt hc
              generalize plE L p sl = PL at *
              generalize (eA L p).sl = sp at *
              go_quiet (fail)
              go_wp2_with fail
              go_meet
              exact ⟨⟨false, (by first | rfl | rw [hcd]), (fun h => by cases h), fun _ => unhide F⟩, below_drewN (unhide HB) _⟩
          · have F : Hid (plE L p sl) := ⟨hp, hlow, fun i h1 h2 => by omega⟩
            have hd : decide (p < L.length) = false := decide_eq_false hlt
            have hd2 : decide ((p : Int) < (L.length : Int)) = false := decide_eq_false (by omega)
            clear O5 P5 hR3m T5 C5 R5 B5 hlow hbr hlt
            go_quiet (fail)
            go_wp2_with fail
            go_meet
            exact ⟨⟨false, (by first | rfl | rw [hd] | rw [hd2]), (fun h => by cases h), fun _ => unhide F⟩, below_drewN (unhide HB) _⟩
        case rest =>
        obtain ⟨⟨b, rfl, hbt, hbf⟩, hbx⟩ := hcut
        clear hlow hbr t1 htl1 c1 hcl1 O5 P5 hR3m T5 C5 R5 B5
        cases b with
        | true =>
          obtain ⟨hlt, hslt⟩ := hbt rfl
          have F : Hid (∀ i, i < p + 1 → (eA L i).sl < sl) := fun i hi => by
            by_cases e9 : i = p
            · rw [e9]; exact hslt
            · exact unhide HL i (by omega)
          have HBX := hide hbx
          clear hbt hbf hslt hbx
          go_wp2
          exact ⟨⟨p + 1, by go_num, by omega, unhide F, unhide HBX⟩, by simp [intOf]; omega⟩
        | false =>
          have HPL := hide (hbf rfl)
          clear hbt hbf
          obtain ⟨O5, P5, hR3m, T5, C5, R5, B5⟩ := unhide HALL
          have T6 := T5.below hbx
          have C6 := C5.below hbx
          have R6 := R5.below hbx
          have O6 := O5.below hbx
          have P6 : ∀ r ∈ R, Pr wc (.slice a2 L.length c2) r := fun r hr => (P5 r hr).below hbx
          have B6 := B5.trans (hbx.mono B5.size)
          have HP : Hid (inP L sl sv nc k t (isE L p ⟨sl, sv, nc, k, t, [], 0⟩) 0) := Or.inr (Or.inr (Or.inr ⟨unhide HGT, unhide hgood, unhide HNO, p, unhide HPL, rfl, rfl⟩))
          clear O5 P5 T5 C5 R5 B5 HALL hbx
          have HLL := hide (is_len L p ⟨sl, sv, nc, k, t, [], 0⟩)
          rcases O6.2 with ⟨q1, q2⟩ | ⟨g, cap9, cur9, q1, q2, q3, q4, _⟩
          · injection q1 with q5 q6 q7
            subst q5 q7
            have hL0 : L = [] := List.length_eq_zero_iff.1 q6
            have hR0 : R = [] := List.length_eq_zero_iff.1 q2
            obtain rfl : p = 0 := by omega
            obtain ⟨v5, w5', v6, w6, a7, c7, w7, r5, r6, r7, A5, A6, A7, E7⟩ := insTail (w := w) (wc := wc) (base := w1.heap.size + 1 + 1) none 0 L R 0 sl sv nc k t hp hL3 (unhide HRL) hR3m O6 P6 R6 B6 (by omega) none none (Or.inl ⟨rfl, by rw [hR0]; rfl⟩) (fun W _ => Or.inl ⟨by omega, by rw [hR0]; rfl⟩) 0 0
            subst hL0
            have hk7 := (T6.below A5).cv
            have hk8 := (T6.below A6).cv
            have RUN5 := hide r5
            have RUN6 := hide r6
            have RUN7 := hide r7
            have t5 := (T6.below A5).cv
            have t6 := (T6.below A6).cv
            have t4 := T6.cv
            have c5 := (C6.below A5).cv
            have c5l := (C6.below A5).lt
            have t4l := T6.lt
            have t6l := (T6.below A6).lt
            have y1 := (R6.below A7).cv
            have y2 := (R6.below A7).fz
            have yl := (R6.below A7).lt
            have FIN : Hid (Ea (w7.setCell ⟨w.heap.size + 1 + 1, 0, none⟩ (.slice a7 (([] : List EnD).length + 1) c7)) a7 (isE [] 0 ⟨sl, sv, nc, k, t, [], 0⟩) ∧ Below w.heap.size w (w7.setCell ⟨w.heap.size + 1 + 1, 0, none⟩ (.slice a7 (([] : List EnD).length + 1) c7))) := ⟨E7, (B6.trans (A7.mono B6.size)).setCell (by show w.heap.size ≤ w.heap.size + 1 + 1; omega) _⟩
            clear r5 r6 r7 A5 A6 A7 E7 O6 P6 T6 C6 R6 B6 hR3m q2 q6 hR0 HL HB HPL HNO hgood HGT HU HRL
            go_wp2_with (first | (at_builtin; refine wpl_app rfl _ _ 29 rfl _ _ _ _ rfl rfl (unhide RUN5) ?_) | (at_builtin; refine wpl_app rfl _ _ 29 rfl _ _ _ _ rfl rfl (unhide RUN6) ?_) | (at_builtin; refine wpl_app rfl _ _ 29 rfl _ _ _ _ rfl rfl (unhide RUN7) ?_))
            all_goals
              refine bodyPost_ret (v := .tuple #[.agg #[.slice a7 (([] : List EnD).length + 1) c7], .int .i64 0]) (by simp [results, Try.results7, go_sem, y1]) rfl ?_
              first | exact ⟨_, 0, a7, c7, unhide HP, by rw [unhide HLL], unhide FIN⟩ | exact ⟨_, 0, unhide HP, a7, ⟨c7, by rw [unhide HLL]⟩, unhide FIN⟩
          · injection q1 with q5 q6 q7
            subst q5
            have hRL := unhide HRL
            have hce : ∀ i, i < R.length → Ce wc g (i * 7) (rA R i).D (.slice (rA R i).ra (rA R i).D.S.length (rA R i).cap) := by
              obtain ⟨a2', c2', e2', _, hf⟩ := O6.form
              injection e2' with z1 z2 z3
              rcases hf with hf | ⟨g', hga, _, _, _, hce⟩
              · rw [hf]; intro i hi; exact absurd hi (Nat.not_lt_zero _)
              · rw [← z1] at hga
                injection hga with hga
                injection hga with hga
                rw [hga]; exact hce
            obtain ⟨s2, hs2⟩ : ∃ s2, s2 = (if c2 = p then some (⟨g, 0, none⟩ : Addr) else some ⟨g, p * 7, none⟩) := ⟨_, rfl⟩
            obtain ⟨v5, w5', v6, w6, a7, c7, w7, r5, r6, r7, A5, A6, A7, E7⟩ := insTail (w := w) (wc := wc) (base := w1.heap.size + 1 + 1) (some ⟨g, 0, none⟩) c2 L R p sl sv nc k t hp hL3 hRL hR3m O6 P6 R6 B6 (by omega) (some ⟨g, 0, none⟩) s2 (by
                have h9 := er_piece hce 0 p (by omega)
                rw [Nat.zero_mul, List.drop_zero] at h9
                have h8 := h9.sc
                rw [show (R.take p).length = p by rw [List.length_take]; omega] at h8
                exact h8) (fun W hW => by
                by_cases c9 : c2 = p
                · refine Or.inl ⟨by omega, ?_⟩
                  rw [List.drop_eq_nil_of_le (by omega)]
                  rfl
                · rw [hs2, if_neg c9]
                  have h9 := er_piece (fun i hi => (hce i hi).below hW) p (R.length - p) (by omega)
                  rw [List.take_of_length_le (by rw [List.length_drop]; exact Nat.le_refl _)] at h9
                  have h8 := h9.sc
                  rw [show (R.drop p).length = L.length - p by rw [List.length_drop, hRL]] at h8
                  exact h8) c2 (c2 - p)
            rw [hs2] at r7
            have hpc : (p : Int) ≤ (c2 : Int) := by omega
            have hpc' : (p : Int) ≤ (L.length : Int) := by omega
            have hp0 : (0 : Int) ≤ (p : Int) := by omega
            have hpl : p ≤ c2 := by omega
            clear hce hRL hs2
            have RUN5 := hide r5
            have RUN6 := hide r6
            have RUN7 := hide r7
            have t5 := (T6.below A5).cv
            have t6 := (T6.below A6).cv
            have t4 := T6.cv
            have c5 := (C6.below A5).cv
            have c5l := (C6.below A5).lt
            have t4l := T6.lt
            have t6l := (T6.below A6).lt
            have y1 := (R6.below A7).cv
            have y2 := (R6.below A7).fz
            have yl := (R6.below A7).lt
            have FIN : Hid (Ea (w7.setCell ⟨w.heap.size + 1 + 1, 0, none⟩ (.slice a7 (L.length + 1) c7)) a7 (isE L p ⟨sl, sv, nc, k, t, [], 0⟩) ∧ Below w.heap.size w (w7.setCell ⟨w.heap.size + 1 + 1, 0, none⟩ (.slice a7 (L.length + 1) c7))) := ⟨E7, (B6.trans (A7.mono B6.size)).setCell (by show w.heap.size ≤ w.heap.size + 1 + 1; omega) _⟩
            clear r5 r6 r7 A5 A6 A7 E7 O6 P6 T6 C6 R6 B6 hR3m q2 q6 q3 q4 q7 HL HB HPL HNO hgood HGT HU HRL
            go_wp2_with (first | (at_builtin; refine wpl_app rfl _ _ 29 rfl _ _ _ _ rfl rfl (unhide RUN5) ?_) | (at_builtin; refine wpl_app rfl _ _ 29 rfl _ _ _ _ rfl rfl (unhide RUN6) ?_) | (at_builtin; refine wpl_app rfl _ _ 29 rfl _ _ _ _ rfl rfl (unhide RUN7) ?_))
            all_goals
              refine bodyPost_ret (v := .tuple #[.agg #[.slice a7 (L.length + 1) c7], .int .i64 0]) (by simp [results, Try.results7, go_sem, y1]) rfl ?_
              first | exact ⟨_, 0, a7, c7, unhide HP, by rw [unhide HLL], unhide FIN⟩ | exact ⟨_, 0, unhide HP, a7, ⟨c7, by rw [unhide HLL]⟩, unhide FIN⟩
end Go.Proofs.Ytcpccdejhmaenaa
