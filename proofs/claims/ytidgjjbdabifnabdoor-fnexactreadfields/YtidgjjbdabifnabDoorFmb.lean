/-
  Contract of the model: ReadFields.
-/
import Derived.Test.YtidgjjbdabifnabDoorFma
namespace Go.Proofs.YtidgjjbdabifnabDoor.Rc
open Go.ChangeShapes Go.WideShapes Go.ChangeAt Go.RowKit Go.Deep
set_option linter.unusedVariables false
set_option maxRecDepth 100000

theorem stM_a {s : ByteArray} (h : 0 < s.size) (h1 : 192 ≤ by0 s 0) : stM (dr s 0) = sdO (dr s 0) 6 := by
  obtain ⟨c, r, e, hc⟩ := dr_cons h
  rw [e]
  unfold stM sdO
  dsimp only
  rw [if_pos (by omega)]
  cases tkP (c :: r) 6 <;> rfl
theorem stM_b {s : ByteArray} (h : 0 < s.size) (h1 : ¬ 192 ≤ by0 s 0) (h2 : by0 s 0 / 16 = 5) : stM (dr s 0) = match sdO (dr s 0) 4 with | none => none | some (D, n) => match tkX (dr s n) 7 with | none => none | some (v, q) => some (⟨D.f0, v⟩, n + q) := by
  obtain ⟨c, r, e, hc⟩ := dr_cons h
  have hd := dr_drop s 0
  rw [e] at hd ⊢
  unfold stM sdO
  dsimp only
  rw [if_neg (by omega), if_pos (by omega)]
  cases tkP (c :: r) 4 with
  | none => rfl
  | some t =>
    obtain ⟨k, hh, n⟩ := t
    dsimp only
    by_cases hk : 15 < k
    · rw [if_pos hk, if_pos hk]
    · rw [if_neg hk, if_neg hk, hd, Nat.zero_add]
      dsimp only
      cases tkX (dr s n) 7 <;> rfl
theorem stM_c {s : ByteArray} (h : 0 < s.size) (h1 : ¬ 192 ≤ by0 s 0) (h2 : by0 s 0 / 8 = 4) : stM (dr s 0) = match tkX (dr s 0) 3 with | none => none | some (m, n) => match tkX (dr s n) 7 with | none => none | some (v, q) => some (⟨m, v⟩, n + q) := by
  obtain ⟨c, r, e, hc⟩ := dr_cons h
  have hd := dr_drop s 0
  rw [e] at hd ⊢
  unfold stM
  dsimp only
  rw [if_neg (by omega), if_neg (by omega), if_pos (by omega)]
  cases tkX (c :: r) 3 with
  | none => rfl
  | some t =>
    obtain ⟨m, n⟩ := t
    dsimp only
    rw [hd, Nat.zero_add]
    cases tkX (dr s n) 7 <;> rfl
theorem stM_d {s : ByteArray} (h : 0 < s.size) (h1 : ¬ 192 ≤ by0 s 0) (h2 : ¬ by0 s 0 / 16 = 5) (h3 : ¬ by0 s 0 / 8 = 4) : stM (dr s 0) = none := by
  obtain ⟨c, r, e, hc⟩ := dr_cons h
  rw [e]
  unfold stM
  dsimp only
  rw [if_neg (by omega), if_neg (by omega), if_neg (by omega)]
theorem rlM_end {s : ByteArray} {f : Nat} {out : List FieldD} (h : s.size = 0) : rlM f (dr s 0) out = some out := by
  have : dr s 0 = [] := List.length_eq_zero_iff.1 (by rw [dr_len]; omega)
  rw [this]
  cases f <;> rfl
theorem rlM_on {s : ByteArray} {f : Nat} {out : List FieldD} (h : 0 < s.size) : rlM (f + 1) (dr s 0) out = match stM (dr s 0) with | none => none | some (D, n) => rlM f (dr (s.extract n s.size) 0) (out ++ [D]) := by
  have hx : ∀ n, dr (s.extract n s.size) 0 = dr s n := fun n => ext_dr s n
  obtain ⟨c, r, e, _⟩ := dr_cons h
  have hd := dr_drop s 0
  rw [e] at hd ⊢
  show (match stM (c :: r) with | none => none | some (D, n) => rlM f ((c :: r).drop n) (out ++ [D])) = _
  cases stM (c :: r) with
  | none => rfl
  | some t =>
    obtain ⟨D, n⟩ := t
    dsimp only
    rw [hd, Nat.zero_add, hx]
theorem and240 : ∀ x : Fin 256, (bits .and .u8 ((x : Nat) : Int) 240 == 80) = decide ((x : Nat) / 16 = 5) := by decide +kernel
theorem and248 : ∀ x : Fin 256, (bits .and .u8 ((x : Nat) : Int) 248 == 32) = decide ((x : Nat) / 8 = 4) := by decide +kernel
theorem and240n (n : Nat) (h : n < 256) : (bits .and .u8 (n : Int) 240 == 80) = decide (n / 16 = 5) := and240 ⟨n, h⟩
theorem and248n (n : Nat) (h : n < 256) : (bits .and .u8 (n : Int) 248 == 32) = decide (n / 8 = 4) := and248 ⟨n, h⟩
set_option maxHeartbeats 3000000 in
theorem specRF (s : ByteArray) (w : World) (hs : s.size ≤ 1048576) :
    Calls Tryd.prog 17 #[.string s] w fun e w' => RfP w.heap.size (rdM s.data.toList) e w' ∧ Below w.heap.size w w' := by
  have hl : s.data.toList.length = s.size := by rw [Array.length_toList]; rfl
  by_cases h2 : s.size < 2
  · have HR : Hid (rdM s.data.toList = none) := by
      show _ = _
      unfold rdM
      exact if_pos (by omega)
    have hI : (s.size : Int) < 2 := by omega
    go_enter Tryd.func17, Tryd.ntmps17
    go_wp2
    go_ret2
    rw [unhide HR]
    exact ⟨RfP.no _ _, Below.refl _ _⟩
  · have HR : Hid (rdM s.data.toList = chk s.data.toList (rlM 31 (dr (s.extract 2 s.size) 0) [])) := by
      show _ = _
      unfold rdM
      rw [if_neg (by omega), show dr (s.extract 2 s.size) 0 = s.data.toList.drop 2 from ext_dr s 2]
    have hI : ¬ (s.size : Int) < 2 := by omega
    have hI2 : (2 : Int) ≤ (s.size : Int) := by omega
    go_enter Tryd.func17, Tryd.ntmps17
    go_wp2_with fail
    go_loopw [4, 5] (fun v4 v5 wr => ∃ (t : ByteArray) (out : List FieldD), t.size ≤ 1048576 ∧ v5 = .string t ∧ out.length ≤ 31 ∧ (∀ D ∈ out, okT D) ∧ Hid (rdM s.data.toList = chk s.data.toList (rlM (31 - out.length) (dr t 0) out)) ∧ Hid (Ro fieldK 33 w.heap.size wr v4 out) ∧ Hid (Below w.heap.size w wr)) (fun _ v5 _ => match v5 with | .string t => t.size | _ => 0)
    case atStart => exact ⟨_, [], by rw [ByteArray.size_extract]; omega, rfl, by simp, (fun D hD => nomatch hD), HR, Ro.nil _ _ _ _, Below.refl _ _⟩
    case round =>
      obtain ⟨t, out, ht, rfl, hout, HT, HQ, HO, HB⟩ := hrel
      clear HR
      have HTI : ∀ i, i < out.length → (gt fieldK out i).f0.size ≤ 1048576 ∧ (gt fieldK out i).f1.size ≤ 1048576 := fun i hi => HT _ (gt_mem fieldK out i hi)
      by_cases ht0 : 0 < t.size
      · have he0 : t.toList.isEmpty = false := by
          rw [ByteArray.toList_eq, list0 t ht0]
          rfl
        by_cases h31 : out.length = 31
        · have hI31 : ¬ (out.length : Int) ≤ 30 := by omega
          have HQ1 : Hid (rdM s.data.toList = chk s.data.toList (some out)) := by
            show _ = _
            rw [unhide HQ, h31]
            rfl
          clear h31
          obtain ⟨a, c, rfl⟩ := (unhide HO).opens
          have HGF := hide (specGF out a c wr (by omega) (fun i hi => HTI i hi) (ro_rix (unhide HO)).1.rd)
          by_cases hg : gdF out = true
          · have HBY := hide (fun W (b : Below wr.heap.size wr W) => specBy out a c W hg ((ro_rix (unhide HO)).1.rd.below b))
            rw [hg] at HGF
            by_cases he : fbT out = s
            · have HR : Hid (rdM s.data.toList = some out) := by
                show _ = _
                rw [unhide HQ1]
                unfold chk
                dsimp only
                rw [if_pos ⟨hg, by rw [← he]; rfl⟩]
              have hq : ((fbT out).toList == s.toList) = true := by rw [tlI]; exact decide_eq_true he
              clear HQ1 HQ HTI he
              go_wp2_with fail
              refine (unhide HGF).mono ?_
              rintro e w1 ⟨rfl, b1⟩
              have B1 := hide b1
              clear b1
              go_wp2_with fail
              refine (unhide HBY _ (unhide B1)).mono ?_
              rintro e w2 ⟨rfl, b2⟩
              have B2 := hide ((unhide B1).trans (b2.mono (unhide B1).size))
              clear b2
              go_wp2
              go_ret2
              rw [unhide HR]
              exact ⟨⟨a, c, rfl, (unhide HO).below (unhide B2)⟩, (unhide HB).trans ((unhide B2).mono (unhide HB).size)⟩
            · have HR : Hid (rdM s.data.toList = none) := by
                show _ = _
                rw [unhide HQ1]
                unfold chk
                dsimp only
                rw [if_neg (fun h => he (by unfold fbT; rw [h.2]))]
              have hq : ((fbT out).toList == s.toList) = false := by rw [tlI]; exact decide_eq_false he
              clear HQ1 HQ HTI he
              go_wp2_with fail
              refine (unhide HGF).mono ?_
              rintro e w1 ⟨rfl, b1⟩
              have B1 := hide b1
              clear b1
              go_wp2_with fail
              refine (unhide HBY _ (unhide B1)).mono ?_
              rintro e w2 ⟨rfl, b2⟩
              have B2 := hide ((unhide B1).trans (b2.mono (unhide B1).size))
              clear b2
              go_wp2
              go_ret2
              rw [unhide HR]
              exact ⟨RfP.no _ _, (unhide HB).trans ((unhide B2).mono (unhide HB).size)⟩
          · have hgf : gdF out = false := by cases h : gdF out with | true => exact absurd h hg | false => rfl
            rw [hgf] at HGF
            have HR : Hid (rdM s.data.toList = none) := by
              show _ = _
              rw [unhide HQ1]
              unfold chk
              dsimp only
              rw [if_neg (fun h => hg h.1)]
            clear HQ1 HQ HTI
            go_wp2_with fail
            refine (unhide HGF).mono ?_
            rintro e w1 ⟨rfl, b1⟩
            have B1 := hide b1
            clear b1
            go_wp2
            go_ret2
            rw [unhide HR]
            exact ⟨RfP.no _ _, (unhide HB).trans ((unhide B1).mono (unhide HB).size)⟩
        · have hI31 : (out.length : Int) ≤ 30 := by omega
          have HQ2 : Hid (rdM s.data.toList = chk s.data.toList (match stM (dr t 0) with | none => none | some (D, n) => rlM (30 - out.length) (dr (t.extract n t.size) 0) (out ++ [D]))) := by
            show _ = _
            rw [unhide HQ, show 31 - out.length = 30 - out.length + 1 by omega, rlM_on ht0]
          obtain ⟨a, c, rfl⟩ := (unhide HO).opens
          have hi0 : (0 : Int) < (t.size : Int) := by omega
          have hby : (t[0]'ht0).toNat = by0 t 0 := by
            have hl : t.data.toList.length = t.size := by rw [Array.length_toList]; rfl
            unfold by0
            rw [List.getD_eq_getElem?_getD, List.getElem?_eq_getElem (by omega)]
            rfl
          by_cases hA : 192 ≤ by0 t 0
          · have HS := hide (stM_a ht0 hA)
            have gA : (192 : Int) ≤ ((t[0]'ht0).toNat : Int) := by omega
            clear hA hby
            have e6 : tpA t 6 = match tkP (dr t 0) 6 with | some t => t | none => (0, 0, 0) := tpA_of (b := 6) (by omega) (by omega)
            have HTP := hide (fun W => specTP t 6 W (by unfold maxLen; omega))
            rw [e6] at HTP
            clear e6
            cases hk : tkP (dr t 0) 6 with
            | none =>
              rw [hk] at HTP
              dsimp only [trip] at HTP
              have HR : Hid (rdM s.data.toList = none) := by
                show _ = _
                rw [unhide HQ2, unhide HS]
                unfold sdO
                rw [hk]
                rfl
              clear hk HQ2 HS
              go_wp2_with fail
              refine (unhide HTP _).mono ?_
              rintro e w1 ⟨rfl, b1⟩
              have B1 := hide (((Below.refl wr.heap.size wr).alloc (Nat.le_refl _) (.cells #[.string ⟨#[]⟩, .string ⟨#[]⟩] 33)).trans (b1.mono (by simp)))
              clear b1
              go_wp2
              go_ret2
              rw [unhide HR]
              exact ⟨RfP.no _ _, (unhide HB).trans ((unhide B1).mono (unhide HB).size)⟩
            | some x =>
              obtain ⟨k, hh, n⟩ := x
              rw [hk] at HTP
              dsimp only [trip] at HTP
              obtain ⟨k1, k2, k3⟩ := tkP_k hk
              rw [dr_len, Nat.sub_zero] at k3
              have hn0 : ((n : Int) == 0) = false := beq_false_of_ne (by omega)
              by_cases h15 : 15 < k
              · have HR : Hid (rdM s.data.toList = none) := by
                  show _ = _
                  rw [unhide HQ2, unhide HS]
                  unfold sdO
                  rw [hk]
                  dsimp only
                  rw [if_pos h15]
                  rfl
                have gk : (15 : Int) < (k : Int) := by omega
                clear hk HQ2 HS
                go_wp2_with fail
                refine (unhide HTP _).mono ?_
                rintro e w1 ⟨rfl, b1⟩
                have B1 := hide (((Below.refl wr.heap.size wr).alloc (Nat.le_refl _) (.cells #[.string ⟨#[]⟩, .string ⟨#[]⟩] 33)).trans (b1.mono (by simp)))
                clear b1
                go_wp2
                go_ret2
                rw [unhide HR]
                exact ⟨RfP.no _ _, (unhide HB).trans ((unhide B1).mono (unhide HB).size)⟩
              · have hsd : sdO (dr t 0) 6 = some (gt fieldK sT k, n) := by
                  unfold sdO
                  rw [hk]
                  dsimp only
                  rw [if_neg h15]
                have HQD := hide (unhide HQ2)
                have HS2 := hide (unhide HS)
                rw [hsd] at HS2
                have gk : ¬ (15 : Int) < (k : Int) := by omega
                have gk2 : (k : Int) < 16 := by omega
                have gk3 : (0 : Int) ≤ (k : Int) := by omega
                have HN := hide (show k < sT.length by rw [sT_len]; omega)
                have hz := sT_sz k (by omega)
                clear hk hsd HQ2 HS h15
                go_wp2_with fail
                refine (unhide HTP _).mono ?_
                rintro e w1 ⟨rfl, b1⟩
                have X1 := hide ((Bx.new wr [.string ⟨#[]⟩, .string ⟨#[]⟩] 33).below b1)
                have B1 := hide (((Below.refl wr.heap.size wr).alloc (Nat.le_refl _) (.cells #[.string ⟨#[]⟩, .string ⟨#[]⟩] 33)).trans (b1.mono (by simp)))
                have sB1 := b1.size
                simp only [World.size_alloc] at sB1
                clear b1
                go_wp2_with fail
                refine (specSt w1).mono ?_
                rintro e w2 ⟨rfl, hR, hlt, b2⟩
                have X2 := hide ((unhide X1).below b2)
                have B2 := hide ((unhide B1).trans (b2.mono (unhide B1).size))
                rcases hR with h0 | ⟨bq, o, e, _, hel⟩
                · exact absurd h0 (by decide)
                have e1 : w1.heap.size = bq ∧ 0 = o := by injection e with e; injection e with e1 e2 _; exact ⟨e1, e2⟩
                obtain ⟨rfl, rfl⟩ := e1
                clear e
                have x0 := field_r0 hel (unhide HN)
                have x1 := field_r1 hel (unhide HN)
                simp only [Nat.zero_add] at x0 x1
                have y0 := (unhide X2).cv
                have yl := (unhide X2).lt
                have yz := (unhide X2).fz
                clear hel b2 HN HTP
                generalize gt fieldK sT k = D at *
                obtain ⟨nm, vl⟩ := D
                dsimp only at x0 x1 hz
                have HQR : Hid (rdM s.data.toList = chk s.data.toList (rlM (30 - out.length) (dr (t.extract n t.size) 0) (out ++ [⟨nm, vl⟩]))) := by
                  show _ = _
                  rw [unhide HQD, unhide HS2]
                have HQ3 : Hid (rdM s.data.toList = chk s.data.toList (rlM (31 - (out ++ [(⟨nm, vl⟩ : FieldD)]).length) (dr (t.extract n t.size) 0) (out ++ [⟨nm, vl⟩]))) := by
                  show _ = _
                  rw [unhide HQR, List.length_append, show 31 - (out.length + [(⟨nm, vl⟩ : FieldD)].length) = 30 - out.length by simp only [List.length_cons, List.length_nil]; omega]
                have X3 := hide (((unhide X2).set (i := 0) (u := .string nm) (by simp)).set (i := 1) (u := .string vl) (by simp))
                have B3 := hide (((unhide B2).setCell (Nat.le_refl _) (.string nm) (p := ⟨wr.heap.size, 0, none⟩)).setCell (Nat.le_refl _) (.string vl) (p := ⟨wr.heap.size, 1, none⟩))
                obtain ⟨v9, w9, run9, o9, b9, _⟩ := pushField ((w2.setCell ⟨wr.heap.size, 0, none⟩ (.string nm)).setCell ⟨wr.heap.size, 1, none⟩ (.string vl)) w.heap.size (.slice a out.length c) out ⟨nm, vl⟩ ((unhide HO).below (unhide B3)) (by omega) (by have h1 := (unhide HB).size; have h2 := (unhide B3).size; omega)
                have hsz : ((w2.setCell ⟨wr.heap.size, 0, none⟩ (.string nm)).setCell ⟨wr.heap.size, 1, none⟩ (.string vl)).heap.size = w2.heap.size := by simp
                rw [hsz] at run9
                have O4 := hide o9
                have B4 := hide (((unhide HB).trans ((unhide B3).mono (unhide HB).size)).trans b9)
                have RUN9 := hide run9
                have HT2 : ∀ D ∈ out ++ [(⟨nm, vl⟩ : FieldD)], okT D := by
                  intro E hE
                  rcases List.mem_append.1 hE with hE | hE
                  · exact HT E hE
                  · rw [List.mem_singleton.1 hE]
                    exact ⟨by show nm.size ≤ _; omega, by show vl.size ≤ _; omega⟩
                have y0 := (unhide X3).cv
                have yl := (unhide X3).lt
                have yz := (unhide X3).fz
                clear run9 o9 b9 hsz
                have n1 : (0 : Int) ≤ (n : Int) ∧ (n : Int) ≤ (t.size : Int) := by omega
                clear X3 B3 X2 B2 X1 B1 HQD HS2 HQR
                go_wp2_with (at_builtin; refine wpl_app rfl _ _ 22 rfl _ _ _ _ rfl rfl (unhide RUN9) ?_)
                exact ⟨⟨t.extract n t.size, out ++ [⟨nm, vl⟩], by rw [ByteArray.size_extract]; omega, by go_num, by simp; omega, HT2, HQ3, O4, B4⟩, by simp [ByteArray.size_extract]; omega⟩
          · have gA : ¬ (192 : Int) ≤ ((t[0]'ht0).toNat : Int) := by omega
            have gA2 : ((t[0]'ht0).toNat : Int) < 192 := by omega
            have w240 := and240n (t[0]'ht0).toNat (by omega)
            have w248 := and248n (t[0]'ht0).toNat (by omega)
            by_cases hB : by0 t 0 / 16 = 5
            · have HS := hide (stM_b ht0 hA hB)
              rw [decide_eq_true (by omega)] at w240
              clear hA hB hby w248
              have e6 : tpA t 4 = match tkP (dr t 0) 4 with | some t => t | none => (0, 0, 0) := tpA_of (b := 4) (by omega) (by omega)
              have HTP := hide (fun W => specTP t 4 W (by unfold maxLen; omega))
              rw [e6] at HTP
              clear e6
              cases hk : tkP (dr t 0) 4 with
              | none =>
                rw [hk] at HTP
                dsimp only [trip] at HTP
                have HR : Hid (rdM s.data.toList = none) := by
                  show _ = _
                  rw [unhide HQ2, unhide HS]
                  unfold sdO
                  rw [hk]
                  rfl
                clear hk HQ2 HS
                go_wp2_with fail
                refine (unhide HTP _).mono ?_
                rintro e w1 ⟨rfl, b1⟩
                have B1 := hide (((Below.refl wr.heap.size wr).alloc (Nat.le_refl _) (.cells #[.string ⟨#[]⟩, .string ⟨#[]⟩] 33)).trans (b1.mono (by simp)))
                clear b1
                go_wp2
                go_ret2
                rw [unhide HR]
                exact ⟨RfP.no _ _, (unhide HB).trans ((unhide B1).mono (unhide HB).size)⟩
              | some x =>
                obtain ⟨k, hh, n⟩ := x
                rw [hk] at HTP
                dsimp only [trip] at HTP
                obtain ⟨k1, k2, k3⟩ := tkP_k hk
                rw [dr_len, Nat.sub_zero] at k3
                have hn0 : ((n : Int) == 0) = false := beq_false_of_ne (by omega)
                by_cases h15 : 15 < k
                · have HR : Hid (rdM s.data.toList = none) := by
                    show _ = _
                    rw [unhide HQ2, unhide HS]
                    unfold sdO
                    rw [hk]
                    dsimp only
                    rw [if_pos h15]
                    rfl
                  have gk : (15 : Int) < (k : Int) := by omega
                  clear hk HQ2 HS
                  go_wp2_with fail
                  refine (unhide HTP _).mono ?_
                  rintro e w1 ⟨rfl, b1⟩
                  have B1 := hide (((Below.refl wr.heap.size wr).alloc (Nat.le_refl _) (.cells #[.string ⟨#[]⟩, .string ⟨#[]⟩] 33)).trans (b1.mono (by simp)))
                  clear b1
                  go_wp2
                  go_ret2
                  rw [unhide HR]
                  exact ⟨RfP.no _ _, (unhide HB).trans ((unhide B1).mono (unhide HB).size)⟩
                · have hsd : sdO (dr t 0) 4 = some (gt fieldK sT k, n) := by
                    unfold sdO
                    rw [hk]
                    dsimp only
                    rw [if_neg h15]
                  have HQD := hide (unhide HQ2)
                  have HS2 := hide (unhide HS)
                  rw [hsd] at HS2
                  have gk : ¬ (15 : Int) < (k : Int) := by omega
                  have gk2 : (k : Int) < 16 := by omega
                  have gk3 : (0 : Int) ≤ (k : Int) := by omega
                  have HN := hide (show k < sT.length by rw [sT_len]; omega)
                  have hz := sT_sz k (by omega)
                  clear hk hsd HQ2 HS h15
                  go_wp2_with fail
                  refine (unhide HTP _).mono ?_
                  rintro e w1 ⟨rfl, b1⟩
                  have X1 := hide ((Bx.new wr [.string ⟨#[]⟩, .string ⟨#[]⟩] 33).below b1)
                  have B1 := hide (((Below.refl wr.heap.size wr).alloc (Nat.le_refl _) (.cells #[.string ⟨#[]⟩, .string ⟨#[]⟩] 33)).trans (b1.mono (by simp)))
                  have sB1 := b1.size
                  simp only [World.size_alloc] at sB1
                  clear b1
                  go_wp2_with fail
                  refine (specSt w1).mono ?_
                  rintro e w2 ⟨rfl, hR, hlt, b2⟩
                  have X2 := hide ((unhide X1).below b2)
                  have B2 := hide ((unhide B1).trans (b2.mono (unhide B1).size))
                  rcases hR with h0 | ⟨bq, o, e, _, hel⟩
                  · exact absurd h0 (by decide)
                  have e1 : w1.heap.size = bq ∧ 0 = o := by injection e with e; injection e with e1 e2 _; exact ⟨e1, e2⟩
                  obtain ⟨rfl, rfl⟩ := e1
                  clear e
                  have x0 := field_r0 hel (unhide HN)
                  have x1 := field_r1 hel (unhide HN)
                  simp only [Nat.zero_add] at x0 x1
                  have y0 := (unhide X2).cv
                  have yl := (unhide X2).lt
                  have yz := (unhide X2).fz
                  clear hel b2 HN HTP
                  generalize gt fieldK sT k = D at *
                  obtain ⟨nm, vl⟩ := D
                  dsimp only at x0 x1 hz
                  have X3a : Hid (Bx _ wr.heap.size [.string nm, .string ⟨#[]⟩]) := hide ((unhide X2).set (i := 0) (u := .string nm) (by simp))
                  have B3a := hide ((unhide B2).setCell (Nat.le_refl _) (.string nm) (p := ⟨wr.heap.size, 0, none⟩))
                  clear X2 B2 X1 B1
                  have n1 : (0 : Int) ≤ (n : Int) ∧ (n : Int) ≤ (t.size : Int) := by omega
                  have n1a : (0 : Int) ≤ (n : Int) := by omega
                  have n1b : (n : Int) ≤ (t.size : Int) := by omega
                  have n9 : ((n : Int)).toNat = n := rfl
                  have HLX := hide (fun W => specLX (t.extract n t.size) 7 W (by rw [ByteArray.size_extract]; omega) (by omega) (by omega))
                  rw [ext_dr] at HLX
                  cases hx : tkX (dr t n) 7 with
                  | none =>
                    rw [hx] at HLX
                    dsimp only [txA] at HLX
                    have HR : Hid (rdM s.data.toList = none) := by
                      show _ = _
                      rw [unhide HQD, unhide HS2]
                      try dsimp only
                      rw [hx]
                      rfl
                    clear hx HQD HS2
                    go_wp2_with fail
                    refine (unhide HLX _).mono ?_
                    rintro e w5 ⟨rfl, b5⟩
                    have B5 := hide ((unhide B3a).trans (b5.mono (unhide B3a).size))
                    clear b5
                    go_wp2
                    go_ret2
                    rw [unhide HR]
                    exact ⟨RfP.no _ _, (unhide HB).trans ((unhide B5).mono (unhide HB).size)⟩
                  | some y =>
                    obtain ⟨vl, q⟩ := y
                    rw [hx] at HLX
                    dsimp only [txA] at HLX
                    have hv := tkX_sz hx
                    have hq := tkX_k hx
                    rw [dr_len] at hv hq
                    have HQR : Hid (rdM s.data.toList = chk s.data.toList (rlM (30 - out.length) (dr (t.extract (n + q) t.size) 0) (out ++ [⟨nm, vl⟩]))) := by
                      show _ = _
                      rw [unhide HQD, unhide HS2]
                      try dsimp only
                      rw [hx]
                    have gq : ¬ (q : Int) < 0 := by omega
                    have n2 : (0 : Int) ≤ ((n + q : Nat) : Int) ∧ ((n + q : Nat) : Int) ≤ (t.size : Int) := by omega
                    clear hx HQD HS2
                    go_wp2_with fail
                    refine (unhide HLX _).mono ?_
                    rintro e w5 ⟨rfl, b5⟩
                    have X5 := hide ((unhide X3a).below b5)
                    have B5 := hide ((unhide B3a).trans (b5.mono (unhide B3a).size))
                    have HQ3 : Hid (rdM s.data.toList = chk s.data.toList (rlM (31 - (out ++ [(⟨nm, vl⟩ : FieldD)]).length) (dr (t.extract (n + q) t.size) 0) (out ++ [⟨nm, vl⟩]))) := by
                      show _ = _
                      rw [unhide HQR, List.length_append, show 31 - (out.length + [(⟨nm, vl⟩ : FieldD)].length) = 30 - out.length by simp only [List.length_cons, List.length_nil]; omega]
                    have X3 := hide ((unhide X5).set (i := 1) (u := .string vl) (by simp))
                    have B3 := hide ((unhide B5).setCell (Nat.le_refl _) (.string vl) (p := ⟨wr.heap.size, 1, none⟩))
                    obtain ⟨v9, w9, run9, o9, b9, _⟩ := pushField (w5.setCell ⟨wr.heap.size, 1, none⟩ (.string vl)) w.heap.size (.slice a out.length c) out ⟨nm, vl⟩ ((unhide HO).below (unhide B3)) (by omega) (by have h1 := (unhide HB).size; have h2 := (unhide B3).size; omega)
                    have hsz : (w5.setCell ⟨wr.heap.size, 1, none⟩ (.string vl)).heap.size = w5.heap.size := by simp
                    rw [hsz] at run9
                    have O4 := hide o9
                    have B4 := hide (((unhide HB).trans ((unhide B3).mono (unhide HB).size)).trans b9)
                    have RUN9 := hide run9
                    have HT2 : ∀ D ∈ out ++ [(⟨nm, vl⟩ : FieldD)], okT D := by
                      intro E hE
                      rcases List.mem_append.1 hE with hE | hE
                      · exact HT E hE
                      · rw [List.mem_singleton.1 hE]
                        exact ⟨by show nm.size ≤ _; omega, by show vl.size ≤ _; omega⟩
                    have y0 := (unhide X5).cv
                    have yl := (unhide X5).lt
                    have yz := (unhide X5).fz
                    clear run9 o9 b9 hsz
                    clear X3 B3 X5 B5 X3a B3a HQR b5
                    go_wp2_with (at_builtin; refine wpl_app rfl _ _ 22 rfl _ _ _ _ rfl rfl (unhide RUN9) ?_)
                    exact ⟨⟨t.extract (n + q) t.size, out ++ [⟨nm, vl⟩], by rw [ByteArray.size_extract]; omega, by go_num, by simp; omega, HT2, HQ3, O4, B4⟩, by simp [ByteArray.size_extract]; omega⟩
            · rw [decide_eq_false (by omega)] at w240
              by_cases hC : by0 t 0 / 8 = 4
              · have HS := hide (stM_c ht0 hA hC)
                rw [decide_eq_true (by omega)] at w248
                clear hA hB hC hby
                have HL3 := hide (fun W => specLX t 3 W ht (by omega) (by omega))
                rw [← dr0] at HL3
                cases hx3 : tkX (dr t 0) 3 with
                | none =>
                  rw [hx3] at HL3
                  dsimp only [txA] at HL3
                  have HR : Hid (rdM s.data.toList = none) := by
                    show _ = _
                    rw [unhide HQ2, unhide HS]
                    rw [hx3]
                    rfl
                  clear hx3 HQ2 HS
                  go_wp2_with fail
                  refine (unhide HL3 _).mono ?_
                  rintro e w1 ⟨rfl, b1⟩
                  have B1 := hide (((Below.refl wr.heap.size wr).alloc (Nat.le_refl _) (.cells #[.string ⟨#[]⟩, .string ⟨#[]⟩] 33)).trans (b1.mono (by simp)))
                  clear b1
                  go_wp2
                  go_ret2
                  rw [unhide HR]
                  exact ⟨RfP.no _ _, (unhide HB).trans ((unhide B1).mono (unhide HB).size)⟩
                | some x =>
                  obtain ⟨nm, n⟩ := x
                  rw [hx3] at HL3
                  dsimp only [txA] at HL3
                  have hz := tkX_sz hx3
                  have k3 := tkX_k hx3
                  rw [dr_len, Nat.sub_zero] at hz k3
                  have HQD := hide (unhide HQ2)
                  have HS2 := hide (unhide HS)
                  rw [hx3] at HS2
                  have gn : ¬ (n : Int) < 0 := by omega
                  clear hx3 HQ2 HS
                  go_wp2_with fail
                  refine (unhide HL3 _).mono ?_
                  rintro e w1 ⟨rfl, b1⟩
                  have X1 := hide ((Bx.new wr [.string ⟨#[]⟩, .string ⟨#[]⟩] 33).below b1)
                  have B1 := hide (((Below.refl wr.heap.size wr).alloc (Nat.le_refl _) (.cells #[.string ⟨#[]⟩, .string ⟨#[]⟩] 33)).trans (b1.mono (by simp)))
                  clear b1
                  have X3a : Hid (Bx _ wr.heap.size [.string nm, .string ⟨#[]⟩]) := hide ((unhide X1).set (i := 0) (u := .string nm) (by simp))
                  have B3a := hide ((unhide B1).setCell (Nat.le_refl _) (.string nm) (p := ⟨wr.heap.size, 0, none⟩))
                  have y0 := (unhide X1).cv
                  have yl := (unhide X1).lt
                  have yz := (unhide X1).fz
                  clear X1 B1
                  have n1 : (0 : Int) ≤ (n : Int) ∧ (n : Int) ≤ (t.size : Int) := by omega
                  have n1a : (0 : Int) ≤ (n : Int) := by omega
                  have n1b : (n : Int) ≤ (t.size : Int) := by omega
                  have n9 : ((n : Int)).toNat = n := rfl
                  have HLX := hide (fun W => specLX (t.extract n t.size) 7 W (by rw [ByteArray.size_extract]; omega) (by omega) (by omega))
                  rw [ext_dr] at HLX
                  cases hx : tkX (dr t n) 7 with
                  | none =>
                    rw [hx] at HLX
                    dsimp only [txA] at HLX
                    have HR : Hid (rdM s.data.toList = none) := by
                      show _ = _
                      rw [unhide HQD, unhide HS2]
                      try dsimp only
                      rw [hx]
                      rfl
                    clear hx HQD HS2
                    go_wp2_with fail
                    refine (unhide HLX _).mono ?_
                    rintro e w5 ⟨rfl, b5⟩
                    have B5 := hide ((unhide B3a).trans (b5.mono (unhide B3a).size))
                    clear b5
                    go_wp2
                    go_ret2
                    rw [unhide HR]
                    exact ⟨RfP.no _ _, (unhide HB).trans ((unhide B5).mono (unhide HB).size)⟩
                  | some y =>
                    obtain ⟨vl, q⟩ := y
                    rw [hx] at HLX
                    dsimp only [txA] at HLX
                    have hv := tkX_sz hx
                    have hq := tkX_k hx
                    rw [dr_len] at hv hq
                    have HQR : Hid (rdM s.data.toList = chk s.data.toList (rlM (30 - out.length) (dr (t.extract (n + q) t.size) 0) (out ++ [⟨nm, vl⟩]))) := by
                      show _ = _
                      rw [unhide HQD, unhide HS2]
                      try dsimp only
                      rw [hx]
                    have gq : ¬ (q : Int) < 0 := by omega
                    have n2 : (0 : Int) ≤ ((n + q : Nat) : Int) ∧ ((n + q : Nat) : Int) ≤ (t.size : Int) := by omega
                    clear hx HQD HS2
                    go_wp2_with fail
                    refine (unhide HLX _).mono ?_
                    rintro e w5 ⟨rfl, b5⟩
                    have X5 := hide ((unhide X3a).below b5)
                    have B5 := hide ((unhide B3a).trans (b5.mono (unhide B3a).size))
                    have HQ3 : Hid (rdM s.data.toList = chk s.data.toList (rlM (31 - (out ++ [(⟨nm, vl⟩ : FieldD)]).length) (dr (t.extract (n + q) t.size) 0) (out ++ [⟨nm, vl⟩]))) := by
                      show _ = _
                      rw [unhide HQR, List.length_append, show 31 - (out.length + [(⟨nm, vl⟩ : FieldD)].length) = 30 - out.length by simp only [List.length_cons, List.length_nil]; omega]
                    have X3 := hide ((unhide X5).set (i := 1) (u := .string vl) (by simp))
                    have B3 := hide ((unhide B5).setCell (Nat.le_refl _) (.string vl) (p := ⟨wr.heap.size, 1, none⟩))
                    obtain ⟨v9, w9, run9, o9, b9, _⟩ := pushField (w5.setCell ⟨wr.heap.size, 1, none⟩ (.string vl)) w.heap.size (.slice a out.length c) out ⟨nm, vl⟩ ((unhide HO).below (unhide B3)) (by omega) (by have h1 := (unhide HB).size; have h2 := (unhide B3).size; omega)
                    have hsz : (w5.setCell ⟨wr.heap.size, 1, none⟩ (.string vl)).heap.size = w5.heap.size := by simp
                    rw [hsz] at run9
                    have O4 := hide o9
                    have B4 := hide (((unhide HB).trans ((unhide B3).mono (unhide HB).size)).trans b9)
                    have RUN9 := hide run9
                    have HT2 : ∀ D ∈ out ++ [(⟨nm, vl⟩ : FieldD)], okT D := by
                      intro E hE
                      rcases List.mem_append.1 hE with hE | hE
                      · exact HT E hE
                      · rw [List.mem_singleton.1 hE]
                        exact ⟨by show nm.size ≤ _; omega, by show vl.size ≤ _; omega⟩
                    have y0 := (unhide X5).cv
                    have yl := (unhide X5).lt
                    have yz := (unhide X5).fz
                    clear run9 o9 b9 hsz
                    clear X3 B3 X5 B5 X3a B3a HQR b5
                    go_wp2_with (at_builtin; refine wpl_app rfl _ _ 22 rfl _ _ _ _ rfl rfl (unhide RUN9) ?_)
                    exact ⟨⟨t.extract (n + q) t.size, out ++ [⟨nm, vl⟩], by rw [ByteArray.size_extract]; omega, by go_num, by simp; omega, HT2, HQ3, O4, B4⟩, by simp [ByteArray.size_extract]; omega⟩
              · have HR : Hid (rdM s.data.toList = none) := by
                  show _ = _
                  rw [unhide HQ2, stM_d ht0 hA hB hC]
                  rfl
                rw [decide_eq_false (by omega)] at w248
                have B1 := hide ((Below.refl wr.heap.size wr).alloc (Nat.le_refl _) (.cells #[.string ⟨#[]⟩, .string ⟨#[]⟩] 33))
                clear hA hB hC hby HQ2
                go_wp2
                go_ret2
                rw [unhide HR]
                exact ⟨RfP.no _ _, (unhide HB).trans ((unhide B1).mono (unhide HB).size)⟩
      · have he0 : t.toList.isEmpty = true := by
          rw [ByteArray.toList_eq, show t.data.toList = [] from List.length_eq_zero_iff.1 (by rw [Array.length_toList]; show t.size = 0; omega)]
          rfl
        have HQ1 : Hid (rdM s.data.toList = chk s.data.toList (some out)) := by
          show _ = _
          rw [unhide HQ, rlM_end (by omega)]
        obtain ⟨a, c, rfl⟩ := (unhide HO).opens
        have HGF := hide (specGF out a c wr (by omega) (fun i hi => HTI i hi) (ro_rix (unhide HO)).1.rd)
        by_cases hg : gdF out = true
        · have HBY := hide (fun W (b : Below wr.heap.size wr W) => specBy out a c W hg ((ro_rix (unhide HO)).1.rd.below b))
          rw [hg] at HGF
          by_cases he : fbT out = s
          · have HR : Hid (rdM s.data.toList = some out) := by
              show _ = _
              rw [unhide HQ1]
              unfold chk
              dsimp only
              rw [if_pos ⟨hg, by rw [← he]; rfl⟩]
            have hq : ((fbT out).toList == s.toList) = true := by rw [tlI]; exact decide_eq_true he
            clear HQ1 HQ HTI he
            go_wp2_with fail
            refine (unhide HGF).mono ?_
            rintro e w1 ⟨rfl, b1⟩
            have B1 := hide b1
            clear b1
            go_wp2_with fail
            refine (unhide HBY _ (unhide B1)).mono ?_
            rintro e w2 ⟨rfl, b2⟩
            have B2 := hide ((unhide B1).trans (b2.mono (unhide B1).size))
            clear b2
            go_wp2
            go_ret2
            rw [unhide HR]
            exact ⟨⟨a, c, rfl, (unhide HO).below (unhide B2)⟩, (unhide HB).trans ((unhide B2).mono (unhide HB).size)⟩
          · have HR : Hid (rdM s.data.toList = none) := by
              show _ = _
              rw [unhide HQ1]
              unfold chk
              dsimp only
              rw [if_neg (fun h => he (by unfold fbT; rw [h.2]))]
            have hq : ((fbT out).toList == s.toList) = false := by rw [tlI]; exact decide_eq_false he
            clear HQ1 HQ HTI he
            go_wp2_with fail
            refine (unhide HGF).mono ?_
            rintro e w1 ⟨rfl, b1⟩
            have B1 := hide b1
            clear b1
            go_wp2_with fail
            refine (unhide HBY _ (unhide B1)).mono ?_
            rintro e w2 ⟨rfl, b2⟩
            have B2 := hide ((unhide B1).trans (b2.mono (unhide B1).size))
            clear b2
            go_wp2
            go_ret2
            rw [unhide HR]
            exact ⟨RfP.no _ _, (unhide HB).trans ((unhide B2).mono (unhide HB).size)⟩
        · have hgf : gdF out = false := by cases h : gdF out with | true => exact absurd h hg | false => rfl
          rw [hgf] at HGF
          have HR : Hid (rdM s.data.toList = none) := by
            show _ = _
            rw [unhide HQ1]
            unfold chk
            dsimp only
            rw [if_neg (fun h => hg h.1)]
          clear HQ1 HQ HTI
          go_wp2_with fail
          refine (unhide HGF).mono ?_
          rintro e w1 ⟨rfl, b1⟩
          have B1 := hide b1
          clear b1
          go_wp2
          go_ret2
          rw [unhide HR]
          exact ⟨RfP.no _ _, (unhide HB).trans ((unhide B1).mono (unhide HB).size)⟩
end Go.Proofs.YtidgjjbdabifnabDoor.Rc
