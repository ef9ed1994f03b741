/-
  The law on datagrams that are cut, walked.
-/
import Derived.Test.YtbabipaipbjlbaaCpr
import Derived.Test.YtbabipaipbjlbaaCutDatagramW
import Derived.Test.YtbabipaipbjlbaaWaiX
import Derived.Test.YtbabipaipbjlbaaDrv
namespace Go.Proofs.Ytbabipaipbjlbaa.fnCut
open Go.ChangeShapes Go.WideShapes Go.ChangeAt Go.RowKit
open Go.Proofs.Ytbabipaipbjlbaa.fnExactCutDatagram (implCD specCD cdR cq_sn LF cut_len)
set_option linter.unusedVariables false
set_option maxRecDepth 100000

set_option maxHeartbeats 1000000 in
theorem sameTx (a a' : Option Addr) (n cap cap' : Nat) (F : Nat → ByteArray) (w : World) (hn : n ≤ 1048576) (h : Sa w a n F) (h' : Sa w a' n F) :
    Calls Try.prog 17 #[.slice a n cap, .slice a' n cap'] w fun e w' => e = .returned (.bool true) ∧ Below w.heap.size w w' := by
  have HR := hide h
  have HR' := hide h'
  clear h h'
  go_enter Try.func17, Try.ntmps17
  go_wp2
  go_loopw [13] (fun i wr => ∃ k : Nat, k ≤ n ∧ i = .int .i64 k ∧ Below w.heap.size w wr) (fun i _ => n - (intOf i).toNat)
  case atStart => exact ⟨0, Nat.zero_le _, rfl, Below.refl _ _⟩
  case round =>
    obtain ⟨k, hk, rfl, hbel⟩ := hrel
    by_cases hlt : k < n
    · rcases (unhide HR).kept hbel with h0 | ⟨b, o, rfl, h1⟩
      · omega
      rcases (unhide HR').kept hbel with h0 | ⟨b', o', rfl, h2⟩
      · omega
      have hcf := h1.c k hlt
      have hcf' := h2.c k hlt
      have hnk : (k : Int) < (n : Int) := by omega
      have hk0 : (0 : Int) ≤ (k : Int) := by omega
      clear h1 h2
      generalize F k = t at *
      go_wp2_with fail
      go_quiet (fail)
      all_goals
        go_wp2
        exact ⟨⟨k + 1, by omega, by go_num, below_drewN hbel _⟩, by simp [intOf]; omega⟩
    · go_wp2
      go_ret
      exact ⟨rfl, hbel⟩
theorem join_snoc (L : List ByteArray) (t : ByteArray) : joinB (L ++ [t]) = joinB L ++ t := by
  induction L with
  | nil =>
    show t ++ ⟨#[]⟩ = ⟨#[]⟩ ++ t
    apply ByteArray.ext
    simp [ByteArray.data_append]
  | cons x L ih =>
    show x ++ joinB (L ++ [t]) = x ++ joinB L ++ t
    rw [ih, ByteArray.append_assoc]
theorem join_app (L M : List ByteArray) : (joinB L).size ≤ (joinB (L ++ M)).size := by
  induction L with
  | nil => exact Nat.zero_le _
  | cons x L ih =>
    show (x ++ joinB L).size ≤ (x ++ joinB (L ++ M)).size
    rw [ByteArray.size_append, ByteArray.size_append]
    omega
theorem join_take (L : List ByteArray) (i : Nat) (h : i < L.length) : joinB (L.take (i + 1)) = joinB (L.take i) ++ LF L i := by
  rw [List.take_succ_eq_append_getElem h, join_snoc]
  congr 1
  unfold LF
  simp [List.getD, h]
theorem join_le (L : List ByteArray) (i : Nat) : (joinB (L.take i)).size ≤ (joinB L).size := by
  have h := join_app (L.take i) (L.drop i)
  rw [List.take_append_drop] at h
  exact h
/-- what a cut gives -/
theorem cd_facts (s : ByteArray) (sh : Int) : (cdR s sh).isSome = true → s.size ≤ 1500 ∧ 0 ≤ sh ∧ sh ≤ 20 ∧ joinB ((cdR s sh).getD []) = s ∧ ((cdR s sh).getD []).length ≤ 1501 ∧ ∀ i, i < ((cdR s sh).getD []).length → (LF ((cdR s sh).getD []) i).size ≤ 1500 ∧ ∃ y, hdR (LF ((cdR s sh).getD []) i) sh.toNat = some y ∧ y.q = (LF ((cdR s sh).getD []) i).size := by
  intro h
  cases hc : cdR s sh with
  | none => rw [hc] at h; cases h
  | some L =>
    unfold cdR at hc
    split at hc
    · rename_i hq
      have hb := cut_back s sh.toNat (s.size + 1) 0 L hc (Nat.zero_le _) (by omega)
      have hl := cut_len s sh.toNat (s.size + 1) 0 L hc
      refine ⟨hq.1, hq.2.1, hq.2.2, ?_, by show L.length ≤ _; omega, fun i hi => ?_⟩
      · show joinB L = s
        rw [hb.2, ext_all]
      · have hi' : i < L.length := hi
        have hm : LF L i ∈ L := by
          unfold LF
          simp [List.getD, hi']
        have := hb.1 _ hm
        exact ⟨by show (LF L i).size ≤ _; omega, this.2⟩
    · cases hc
theorem implVA2 (f bi ve : Int) (d s t p : ByteArray) (ra rb : Option Addr) (n cap m cap2 : Nat) (V U : Nat → Int) (w : World) (hd : d.size ≤ 1048576) (hs : s.size ≤ 1048576) (ht : t.size ≤ 1048576) (hp : p.size ≤ 1048576) (hn : n ≤ 1048576) (hm : m ≤ 1048576) (hR : Ia w ra n cap V) (hU : Ia w rb m cap2 U) :
    Calls Try.prog 20 #[hv f bi ve d s t p ra n cap, .slice rb m cap2] w (Va (va f bi ve d.size s.size t.size p.size n V m U) d s m U w) := by
  rcases hU with h0 | ⟨g, o, rfl, hU⟩
  · subst h0
    exact implVA_nil f bi ve d s t p ra rb n cap cap2 V U w hd hs ht hp hn hR
  · exact implVA_any f bi ve d s t p ra n cap g o m cap2 V U w hd hs ht hp hn hm hR hU
theorem specVA2 (f bi ve : Int) (d s t p : ByteArray) (ra rb : Option Addr) (n cap m cap2 : Nat) (V U : Nat → Int) (w : World) (hd : d.size ≤ 1048576) (hs : s.size ≤ 1048576) (ht : t.size ≤ 1048576) (hp : p.size ≤ 1048576) (hn : n ≤ 1048576) (hm : m ≤ 1048576) (hR : Ia w ra n cap V) (hU : Ia w rb m cap2 U) :
    Calls Try.prog 21 #[hv f bi ve d s t p ra n cap, .slice rb m cap2] w (Va (va f bi ve d.size s.size t.size p.size n V m U) d s m U w) := by
  rcases hU with h0 | ⟨g, o, rfl, hU⟩
  · subst h0
    exact specVA_nil f bi ve d s t p ra rb n cap cap2 V U w hd hs ht hp hn hR
  · exact specVA_any f bi ve d s t p ra n cap g o m cap2 V U w hd hs ht hp hn hm hR hU
theorem va_good {f bi ve : Int} {d s t p n : Nat} {V : Nat → Int} {m : Nat} {U : Nat → Int} (h : va f bi ve d s t p n V m U = true) : gh 4 0 0 s d 0 0 m U = true := by
  obtain ⟨hg, _, hv, _⟩ := of_decide_eq_true h
  obtain ⟨h1, h2, _, _, _⟩ := of_decide_eq_true hg
  obtain ⟨v1, v2, v3⟩ := of_decide_eq_true hv
  refine decide_eq_true ⟨h2, h1, by omega, by omega, ?_⟩
  rw [gpB_4]
  refine decide_eq_true ⟨by omega, rfl, rfl, rfl, decide_eq_true ⟨v1, v2, allW_yes fun j hj => ?_⟩⟩
  have := of_decide_eq_true (List.all_eq_true.1 v3 j (List.mem_range.2 hj))
  exact decide_eq_true ⟨by omega, this.2⟩
theorem Cd.within {w w' : World} {a : Option Addr} {N : Nat} (h : Dr.Cd w a N) (hb : Below w.heap.size w w') : Dr.Cd w' a N := h.below hb
abbrev Hd8 (x y z : Int) (p q t u : ByteArray) (b : Option Addr) (n c : Nat) : Obj := .cells #[.int .i64 x, .int .i64 y, .int .i64 z, .string p, .string q, .string t, .string u, .slice b n c] 49
set_option maxHeartbeats 8000000 in
theorem walk_small (a : Option Addr) (N cap : Nat) (b : Option Addr) (M cap2 : Nat) (w : World) (hl : N + M ≤ 1048576) (ha : Dr.Cd w a N) (hb : Dr.Cd w b M) :
    Calls Try.prog 5 #[.slice a N cap, .slice b M cap2] w fun e w' => e = .returned (.bool true) ∧ Below w.heap.size w w' := by
  have HA := hide (Dr.drawCD_any a N cap w (by omega) ha)
  have HB := hide hb
  clear ha hb
  have hs1 : (N : Int) + (M : Int) ≤ 1048576 := by omega
  go_enter Try.func5, Try.ntmps5
  go_wp2_with fail
  refine (unhide HA).mono ?_
  rintro e w1 ⟨s, sh, rfl, hs, hs2, hs3, b1⟩
  have HF := hide (cd_facts s sh)
  have HN : Hid ((cdR s sh).isSome = false → (cdR s sh).getD [] = []) := fun h => by
    cases hc : cdR s sh with
    | none => rfl
    | some L => rw [hc] at h; cases h
  have HC := hide (fun W => implCD s sh (by omega) W)
  have HS := hide (fun W => specCD s sh (by omega) W)
  have B1 := hide b1
  clear b1 HA
  go_wp2_with fail
  refine (unhide HC _).mono ?_
  intro e w2 q2
  obtain ⟨a2, c2, rfl, s2, b2⟩ := cq_sn q2
  have S2 := hide s2.sa
  have B2 := hide ((unhide B1).trans (b2.mono (unhide B1).size))
  clear q2 s2 b2 B1 HC
  go_wp2_with fail
  refine (unhide HS _).mono ?_
  intro e w3 q3
  obtain ⟨a3, c3, rfl, s3, b3⟩ := cq_sn q3
  have S3 := hide s3.sa
  have S2' := hide ((unhide S2).kept b3)
  have B3 := hide ((unhide B2).trans (b3.mono (unhide B2).size))
  clear q3 s3 b3 B2 HS S2
  generalize (cdR s sh).getD [] = L at *
  generalize (cdR s sh).isSome = r at *
  have hln : L.length ≤ 1501 := by
    cases r with
    | true => exact (unhide HF rfl).2.2.2.2.1
    | false => rw [unhide HN rfl]; exact Nat.zero_le _
  go_wp2_with fail
  refine (sameTx a2 a3 L.length c2 c3 (LF L) _ (by omega) (unhide S2') (unhide S3)).mono ?_
  rintro e w4 ⟨rfl, b4⟩
  have S4 := hide ((unhide S2').kept b4)
  have B4 := hide ((unhide B3).trans (b4.mono (unhide B3).size))
  clear b4 B3 S3 S2'
  go_wp2_with fail
  go_loopw [11, 57] (fun av iv wr => ∃ i : Nat, i ≤ L.length ∧ iv = .int .i64 i ∧ av = .string (joinB (L.take i)) ∧ Below w4.heap.size w4 wr) (fun _ iv _ => L.length - (intOf iv).toNat)
  case atStart => exact ⟨0, Nat.zero_le _, rfl, rfl, Below.refl _ _⟩
  case round =>
    obtain ⟨i, hi, rfl, rfl, bR⟩ := hrel
    have BR := hide bR
    clear bR
    by_cases hlt : i < L.length
    · have hr : r = true := by
        cases r with
        | true => rfl
        | false => rw [unhide HN rfl] at hlt; exact absurd hlt (Nat.not_lt_zero _)
      obtain ⟨k1, k2, k3, k4, k5, k6⟩ := unhide HF hr
      clear hr
      obtain ⟨t1, y, t2, t3⟩ := k6 i hlt
      obtain ⟨k, rfl⟩ := Int.eq_ofNat_of_zero_le k2
      rw [Int.toNat_natCast] at t2
      have HR := hide (fun W => rdh_ok (LF L i) k y W (by omega) (by omega) t2)
      rw [t3] at HR
      have hjz := join_le L i
      rw [k4] at hjz
      have ad := fun W : World => run_string_add_sum (P := Try.prog) (w := W) (joinB (L.take i)) (LF L i) (by omega)
      rw [← join_take L i hlt] at ad
      have hcell : ∃ bb oo, a2 = some ⟨bb, oo, none⟩ ∧ wr.cell? ⟨bb, oo + i, none⟩ = some (.string (LF L i)) := by
        rcases (unhide S4).kept (unhide BR) with z | ⟨bb, oo, e, h1⟩
        · omega
        · exact ⟨bb, oo, e, h1.c i hlt⟩
      obtain ⟨bb, oo, rfl, hcell⟩ := hcell
      have hnk : (i : Int) < (L.length : Int) := by omega
      have hk0 : (0 : Int) ≤ (i : Int) := by omega
      clear t1 t2 t3 k4 k5 k6 hjz
      have JS := hide (rfl : joinB (L.take (i + 1)) = joinB (L.take (i + 1)))
      generalize hJ : joinB (L.take (i + 1)) = jn1 at *
      generalize joinB (L.take i) = jn0 at *
      generalize LF L i = tx at *
      have HJ := hide hJ
      clear hJ JS
      go_wp2_with fail
      refine (unhide HR _).mono ?_
      rintro e w5 ⟨ra, rc, rfl, o5, b5⟩
      have B5 := hide (((unhide BR).trans (b5.mono (unhide BR).size)).alloc (Nat.le_trans (unhide BR).size b5.size) (Hd8 y.f y.bi y.ve y.d y.e y.t y.y ra y.m rc))
      clear b5 o5 BR HR
      go_wp2
      exact ⟨⟨i + 1, by omega, by go_num, by rw [unhide HJ], unhide B5⟩, by simp [intOf]; omega⟩
    · have e : i = L.length := by omega
      subst e
      rw [List.take_length]
      have hok : Hid (r = true → joinB L = s) := fun h => (unhide HF h).2.2.2.1
      have B6 := hide ((unhide B4).trans ((unhide BR).mono (unhide B4).size))
      have HV := hide (Dr.drawVA_any b M cap2 wr (by omega) ((unhide HB).below (unhide B6)))
      clear HF HN S4 BR B4 HB
      cases r with
      | true =>
        have hj := unhide hok rfl
        rw [hj]
        clear hok hj
        go_wp2_with fail
        refine (unhide HV).mono ?_
        rintro e w5 ⟨f, bi, ve, d, s', t, p, vb, n, vc, V, rb, m, rc, U, rfl, z1, z2, z3, z4, z5, z6, hI, hU, b5⟩
        have bb := (Below.refl w5.heap.size w5).alloc (Nat.le_refl _) (Hd8 f bi ve d s' t p vb n vc)
        have H5 := Hh.new w5 49 (.int .i64 f) (.int .i64 bi) (.int .i64 ve) (.string d) (.string s') (.string t) (.string p) (.slice vb n vc)
        have I5 := hide (hI.below bb)
        have U5 := hide (hU.below bb)
        have B7 := hide (((unhide B6).trans (b5.mono (unhide B6).size)).trans (bb.mono (Nat.le_trans (unhide B6).size b5.size)))
        clear hI hU b5 HV B6
        have HIM := hide (fun (W : World) (i : Ia W vb n vc V) (j : Ia W rb m rc U) => implVA2 f bi ve d s' t p vb rb n vc m rc V U W (by omega) (by omega) (by omega) (by omega) (by omega) (by omega) i j)
        have HSM := hide (fun (W : World) (i : Ia W vb n vc V) (j : Ia W rb m rc U) => specVA2 f bi ve d s' t p vb rb n vc m rc V U W (by omega) (by omega) (by omega) (by omega) (by omega) (by omega) i j)
        have HGD := hide (fun (h : va f bi ve d.size s'.size t.size p.size n V m U = true) => va_good h)
        generalize va f bi ve d.size s'.size t.size p.size n V m U = rv at *
        go_wp2_with fail
        refine (unhide HIM _ (unhide I5) (unhide U5)).mono ?_
        intro e w6 q6
        obtain ⟨q6, b6⟩ := q6
        have H6 := H5.below b6
        have I6 := hide ((unhide I5).below b6)
        have U6 := hide ((unhide U5).below b6)
        have B8 := hide ((unhide B7).trans (b6.mono (unhide B7).size))
        rcases q6 with ⟨rfl, rfl⟩ | ⟨rfl, m1, m2, g3, c3', rfl, w6i⟩
        · have bb2 := (Below.refl w6.heap.size w6).alloc (Nat.le_refl _) (Hd8 0 0 0 ⟨#[]⟩ ⟨#[]⟩ ⟨#[]⟩ ⟨#[]⟩ none 0 0)
          have H7 := H6.below bb2
          have X7 := Hh.new w6 49 (.int .i64 0) (.int .i64 0) (.int .i64 0) (.string ⟨#[]⟩) (.string ⟨#[]⟩) (.string ⟨#[]⟩) (.string ⟨#[]⟩) (.slice none 0 0)
          have I7 := hide ((unhide I6).below bb2)
          have U7 := hide ((unhide U6).below bb2)
          have B9 := hide ((unhide B8).trans (bb2.mono (unhide B8).size))
          clear b6 bb2 H5 H6 I5 I6 U5 U6 B7 B8 HIM
          obtain ⟨y0, y1, y2, y3, y4, y5, y6, y7, y8, yf⟩ := id H7
          go_wp2_with fail
          refine (unhide HSM _ (unhide I7) (unhide U7)).mono ?_
          intro e w8 q8
          obtain ⟨q8, b8⟩ := q8
          rcases q8 with ⟨_, rfl⟩ | ⟨z, _⟩
          · have bb3 := (Below.refl w8.heap.size w8).alloc (Nat.le_refl _) (Hd8 0 0 0 ⟨#[]⟩ ⟨#[]⟩ ⟨#[]⟩ ⟨#[]⟩ none 0 0)
            have X9 := (X7.below b8).below bb3
            have Y9 := Hh.new w8 49 (.int .i64 0) (.int .i64 0) (.int .i64 0) (.string ⟨#[]⟩) (.string ⟨#[]⟩) (.string ⟨#[]⟩) (.string ⟨#[]⟩) (.slice none 0 0)
            have BA := hide (((unhide B9).trans (b8.mono (unhide B9).size)).trans (bb3.mono (Nat.le_trans (unhide B9).size b8.size)))
            clear b8 bb3 H7 X7 I7 U7 B9 HSM y0 y1 y2 y3 y4 y5 y6 y7 y8 yf
            obtain ⟨y0, y1, y2, y3, y4, y5, y6, y7, y8, yf⟩ := id X9
            obtain ⟨x0, x1, x2, x3, x4, x5, x6, x7, x8, xf⟩ := id Y9
            go_wp2_with fail
            refine (sameHd 0 0 0 ⟨#[]⟩ ⟨#[]⟩ ⟨#[]⟩ ⟨#[]⟩ none none 0 0 0 (fun _ => 0) _ (by omega) (Or.inl rfl) (Or.inl rfl)).mono ?_
            rintro e w9 ⟨rfl, b9⟩
            have BB := hide ((unhide BA).trans (b9.mono (unhide BA).size))
            clear b9
            go_wp2
            go_ret
            exact ⟨rfl, unhide BB⟩
          · cases z
        · have bb2 := (Below.refl w6.heap.size w6).alloc (Nat.le_refl _) (Hd8 4 0 0 s' d ⟨#[]⟩ ⟨#[]⟩ (some ⟨g3, 0, none⟩) m c3')
          have H7 := H6.below bb2
          have X7 := Hh.new w6 49 (.int .i64 4) (.int .i64 0) (.int .i64 0) (.string s') (.string d) (.string ⟨#[]⟩) (.string ⟨#[]⟩) (.slice (some ⟨g3, 0, none⟩) m c3')
          have I7 := hide ((unhide I6).below bb2)
          have U7 := hide ((unhide U6).below bb2)
          have R7 := hide (w6i.ir.below bb2)
          have B9 := hide ((unhide B8).trans (bb2.mono (unhide B8).size))
          clear b6 bb2 H5 H6 I5 I6 U5 U6 B7 B8 HIM w6i
          obtain ⟨y0, y1, y2, y3, y4, y5, y6, y7, y8, yf⟩ := id H7
          go_wp2_with fail
          refine (unhide HSM _ (unhide I7) (unhide U7)).mono ?_
          intro e w8 q8
          obtain ⟨q8, b8⟩ := q8
          rcases q8 with ⟨z, _⟩ | ⟨_, _, _, g4, c4', rfl, w8i⟩
          · cases z
          · have bb3 := (Below.refl w8.heap.size w8).alloc (Nat.le_refl _) (Hd8 4 0 0 s' d ⟨#[]⟩ ⟨#[]⟩ (some ⟨g4, 0, none⟩) m c4')
            have H9 := (H7.below b8).below bb3
            have X9 := (X7.below b8).below bb3
            have Y9 := Hh.new w8 49 (.int .i64 4) (.int .i64 0) (.int .i64 0) (.string s') (.string d) (.string ⟨#[]⟩) (.string ⟨#[]⟩) (.slice (some ⟨g4, 0, none⟩) m c4')
            have R9 := hide (((unhide R7).below b8).below bb3)
            have Q9 := hide (w8i.ir.below bb3)
            have BA := hide (((unhide B9).trans (b8.mono (unhide B9).size)).trans (bb3.mono (Nat.le_trans (unhide B9).size b8.size)))
            clear b8 bb3 H7 X7 I7 U7 R7 B9 HSM w8i y0 y1 y2 y3 y4 y5 y6 y7 y8 yf
            obtain ⟨y0, y1, y2, y3, y4, y5, y6, y7, y8, yf⟩ := id X9
            obtain ⟨x0, x1, x2, x3, x4, x5, x6, x7, x8, xf⟩ := id Y9
            go_wp2_with fail
            refine (sameHd 4 0 0 s' d ⟨#[]⟩ ⟨#[]⟩ (some ⟨g3, 0, none⟩) (some ⟨g4, 0, none⟩) m c3' c4' U _ (by omega) (Or.inr ⟨g3, 0, rfl, unhide R9⟩) (Or.inr ⟨g4, 0, rfl, unhide Q9⟩)).mono ?_
            rintro e w9 ⟨rfl, b9⟩
            have HA := H9.below b9
            have XA := X9.below b9
            have RA := hide ((unhide R9).below b9)
            have BB := hide ((unhide BA).trans (b9.mono (unhide BA).size))
            clear b9 x0 x1 x2 x3 x4 x5 x6 x7 x8 xf y0 y1 y2 y3 y4 y5 y6 y7 y8 yf H9 X9 Y9 R9 Q9 BA
            obtain ⟨y0, y1, y2, y3, y4, y5, y6, y7, y8, yf⟩ := id XA
            obtain ⟨x0, x1, x2, x3, x4, x5, x6, x7, x8, xf⟩ := id HA
            have HGX := hide (implGood_any 4 0 0 s' d ⟨#[]⟩ ⟨#[]⟩ (some ⟨g3, 0, none⟩) m c3' U w9 (by omega) (by omega) (by show 0 ≤ _; omega) (by show 0 ≤ _; omega) (by omega) (Or.inr ⟨g3, 0, rfl, unhide RA⟩))
            rw [show gh 4 0 0 s'.size d.size (⟨#[]⟩ : ByteArray).size (⟨#[]⟩ : ByteArray).size m U = true from unhide HGD (by first | trivial | rfl)] at HGX
            go_wp2_with fail
            refine (unhide HGX).mono ?_
            rintro e wA ⟨rfl, bA⟩
            have BC := hide ((unhide BB).trans (bA.mono (unhide BB).size))
            clear bA
            go_wp2
            go_ret
            exact ⟨rfl, unhide BC⟩
      | false =>
        clear hok
        go_wp2_with fail
        refine (unhide HV).mono ?_
        rintro e w5 ⟨f, bi, ve, d, s', t, p, vb, n, vc, V, rb, m, rc, U, rfl, z1, z2, z3, z4, z5, z6, hI, hU, b5⟩
        have bb := (Below.refl w5.heap.size w5).alloc (Nat.le_refl _) (Hd8 f bi ve d s' t p vb n vc)
        have H5 := Hh.new w5 49 (.int .i64 f) (.int .i64 bi) (.int .i64 ve) (.string d) (.string s') (.string t) (.string p) (.slice vb n vc)
        have I5 := hide (hI.below bb)
        have U5 := hide (hU.below bb)
        have B7 := hide (((unhide B6).trans (b5.mono (unhide B6).size)).trans (bb.mono (Nat.le_trans (unhide B6).size b5.size)))
        clear hI hU b5 HV B6
        have HIM := hide (fun (W : World) (i : Ia W vb n vc V) (j : Ia W rb m rc U) => implVA2 f bi ve d s' t p vb rb n vc m rc V U W (by omega) (by omega) (by omega) (by omega) (by omega) (by omega) i j)
        have HSM := hide (fun (W : World) (i : Ia W vb n vc V) (j : Ia W rb m rc U) => specVA2 f bi ve d s' t p vb rb n vc m rc V U W (by omega) (by omega) (by omega) (by omega) (by omega) (by omega) i j)
        have HGD := hide (fun (h : va f bi ve d.size s'.size t.size p.size n V m U = true) => va_good h)
        generalize va f bi ve d.size s'.size t.size p.size n V m U = rv at *
        go_wp2_with fail
        refine (unhide HIM _ (unhide I5) (unhide U5)).mono ?_
        intro e w6 q6
        obtain ⟨q6, b6⟩ := q6
        have H6 := H5.below b6
        have I6 := hide ((unhide I5).below b6)
        have U6 := hide ((unhide U5).below b6)
        have B8 := hide ((unhide B7).trans (b6.mono (unhide B7).size))
        rcases q6 with ⟨rfl, rfl⟩ | ⟨rfl, m1, m2, g3, c3', rfl, w6i⟩
        · have bb2 := (Below.refl w6.heap.size w6).alloc (Nat.le_refl _) (Hd8 0 0 0 ⟨#[]⟩ ⟨#[]⟩ ⟨#[]⟩ ⟨#[]⟩ none 0 0)
          have H7 := H6.below bb2
          have X7 := Hh.new w6 49 (.int .i64 0) (.int .i64 0) (.int .i64 0) (.string ⟨#[]⟩) (.string ⟨#[]⟩) (.string ⟨#[]⟩) (.string ⟨#[]⟩) (.slice none 0 0)
          have I7 := hide ((unhide I6).below bb2)
          have U7 := hide ((unhide U6).below bb2)
          have B9 := hide ((unhide B8).trans (bb2.mono (unhide B8).size))
          clear b6 bb2 H5 H6 I5 I6 U5 U6 B7 B8 HIM
          obtain ⟨y0, y1, y2, y3, y4, y5, y6, y7, y8, yf⟩ := id H7
          go_wp2_with fail
          refine (unhide HSM _ (unhide I7) (unhide U7)).mono ?_
          intro e w8 q8
          obtain ⟨q8, b8⟩ := q8
          rcases q8 with ⟨_, rfl⟩ | ⟨z, _⟩
          · have bb3 := (Below.refl w8.heap.size w8).alloc (Nat.le_refl _) (Hd8 0 0 0 ⟨#[]⟩ ⟨#[]⟩ ⟨#[]⟩ ⟨#[]⟩ none 0 0)
            have X9 := (X7.below b8).below bb3
            have Y9 := Hh.new w8 49 (.int .i64 0) (.int .i64 0) (.int .i64 0) (.string ⟨#[]⟩) (.string ⟨#[]⟩) (.string ⟨#[]⟩) (.string ⟨#[]⟩) (.slice none 0 0)
            have BA := hide (((unhide B9).trans (b8.mono (unhide B9).size)).trans (bb3.mono (Nat.le_trans (unhide B9).size b8.size)))
            clear b8 bb3 H7 X7 I7 U7 B9 HSM y0 y1 y2 y3 y4 y5 y6 y7 y8 yf
            obtain ⟨y0, y1, y2, y3, y4, y5, y6, y7, y8, yf⟩ := id X9
            obtain ⟨x0, x1, x2, x3, x4, x5, x6, x7, x8, xf⟩ := id Y9
            go_wp2_with fail
            refine (sameHd 0 0 0 ⟨#[]⟩ ⟨#[]⟩ ⟨#[]⟩ ⟨#[]⟩ none none 0 0 0 (fun _ => 0) _ (by omega) (Or.inl rfl) (Or.inl rfl)).mono ?_
            rintro e w9 ⟨rfl, b9⟩
            have BB := hide ((unhide BA).trans (b9.mono (unhide BA).size))
            clear b9
            go_wp2
            go_ret
            exact ⟨rfl, unhide BB⟩
          · cases z
        · have bb2 := (Below.refl w6.heap.size w6).alloc (Nat.le_refl _) (Hd8 4 0 0 s' d ⟨#[]⟩ ⟨#[]⟩ (some ⟨g3, 0, none⟩) m c3')
          have H7 := H6.below bb2
          have X7 := Hh.new w6 49 (.int .i64 4) (.int .i64 0) (.int .i64 0) (.string s') (.string d) (.string ⟨#[]⟩) (.string ⟨#[]⟩) (.slice (some ⟨g3, 0, none⟩) m c3')
          have I7 := hide ((unhide I6).below bb2)
          have U7 := hide ((unhide U6).below bb2)
          have R7 := hide (w6i.ir.below bb2)
          have B9 := hide ((unhide B8).trans (bb2.mono (unhide B8).size))
          clear b6 bb2 H5 H6 I5 I6 U5 U6 B7 B8 HIM w6i
          obtain ⟨y0, y1, y2, y3, y4, y5, y6, y7, y8, yf⟩ := id H7
          go_wp2_with fail
          refine (unhide HSM _ (unhide I7) (unhide U7)).mono ?_
          intro e w8 q8
          obtain ⟨q8, b8⟩ := q8
          rcases q8 with ⟨z, _⟩ | ⟨_, _, _, g4, c4', rfl, w8i⟩
          · cases z
          · have bb3 := (Below.refl w8.heap.size w8).alloc (Nat.le_refl _) (Hd8 4 0 0 s' d ⟨#[]⟩ ⟨#[]⟩ (some ⟨g4, 0, none⟩) m c4')
            have H9 := (H7.below b8).below bb3
            have X9 := (X7.below b8).below bb3
            have Y9 := Hh.new w8 49 (.int .i64 4) (.int .i64 0) (.int .i64 0) (.string s') (.string d) (.string ⟨#[]⟩) (.string ⟨#[]⟩) (.slice (some ⟨g4, 0, none⟩) m c4')
            have R9 := hide (((unhide R7).below b8).below bb3)
            have Q9 := hide (w8i.ir.below bb3)
            have BA := hide (((unhide B9).trans (b8.mono (unhide B9).size)).trans (bb3.mono (Nat.le_trans (unhide B9).size b8.size)))
            clear b8 bb3 H7 X7 I7 U7 R7 B9 HSM w8i y0 y1 y2 y3 y4 y5 y6 y7 y8 yf
            obtain ⟨y0, y1, y2, y3, y4, y5, y6, y7, y8, yf⟩ := id X9
            obtain ⟨x0, x1, x2, x3, x4, x5, x6, x7, x8, xf⟩ := id Y9
            go_wp2_with fail
            refine (sameHd 4 0 0 s' d ⟨#[]⟩ ⟨#[]⟩ (some ⟨g3, 0, none⟩) (some ⟨g4, 0, none⟩) m c3' c4' U _ (by omega) (Or.inr ⟨g3, 0, rfl, unhide R9⟩) (Or.inr ⟨g4, 0, rfl, unhide Q9⟩)).mono ?_
            rintro e w9 ⟨rfl, b9⟩
            have HA := H9.below b9
            have XA := X9.below b9
            have RA := hide ((unhide R9).below b9)
            have BB := hide ((unhide BA).trans (b9.mono (unhide BA).size))
            clear b9 x0 x1 x2 x3 x4 x5 x6 x7 x8 xf y0 y1 y2 y3 y4 y5 y6 y7 y8 yf H9 X9 Y9 R9 Q9 BA
            obtain ⟨y0, y1, y2, y3, y4, y5, y6, y7, y8, yf⟩ := id XA
            obtain ⟨x0, x1, x2, x3, x4, x5, x6, x7, x8, xf⟩ := id HA
            have HGX := hide (implGood_any 4 0 0 s' d ⟨#[]⟩ ⟨#[]⟩ (some ⟨g3, 0, none⟩) m c3' U w9 (by omega) (by omega) (by show 0 ≤ _; omega) (by show 0 ≤ _; omega) (by omega) (Or.inr ⟨g3, 0, rfl, unhide RA⟩))
            rw [show gh 4 0 0 s'.size d.size (⟨#[]⟩ : ByteArray).size (⟨#[]⟩ : ByteArray).size m U = true from unhide HGD (by first | trivial | rfl)] at HGX
            go_wp2_with fail
            refine (unhide HGX).mono ?_
            rintro e wA ⟨rfl, bA⟩
            have BC := hide ((unhide BB).trans (bA.mono (unhide BB).size))
            clear bA
            go_wp2
            go_ret
            exact ⟨rfl, unhide BC⟩
theorem walk_big (a : Option Addr) (N cap : Nat) (b : Option Addr) (M cap2 : Nat) (w : World) (hN : N ≤ 140737488355328) (hM : M ≤ 140737488355328) (hl : ¬ N + M ≤ 1048576) :
    Calls Try.prog 5 #[.slice a N cap, .slice b M cap2] w fun e w' => e = .returned (.bool true) ∧ Below w.heap.size w w' := by
  have hs1 : (1048576 : Int) < (N : Int) + (M : Int) := by omega
  go_enter Try.func5, Try.ntmps5
  go_wp2
  go_ret
  exact ⟨rfl, Below.refl _ _⟩
theorem walk (a : Option Addr) (N cap : Nat) (b : Option Addr) (M cap2 : Nat) (w : World) (hN : N ≤ 140737488355328) (hM : M ≤ 140737488355328) (ha : Dr.Cd w a N) (hb : Dr.Cd w b M) :
    Calls Try.prog 5 #[.slice a N cap, .slice b M cap2] w fun e w' => e = .returned (.bool true) ∧ Below w.heap.size w w' := by
  by_cases hl : N + M ≤ 1048576
  · exact walk_small a N cap b M cap2 w hl ha hb
  · exact walk_big a N cap b M cap2 w hN hM hl
end Go.Proofs.Ytbabipaipbjlbaa.fnCut
