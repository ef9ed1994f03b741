/-
  Contracts: what the model draws for an answer of versions.
-/
import Derived.Test.YtbabipaipbjlbaaDrc
namespace Go.Proofs.Ytbabipaipbjlbaa.Dr
open Go.ChangeShapes Go.WideShapes Go.ChangeAt Go.RowKit
set_option linter.unusedVariables false
set_option maxRecDepth 100000

theorem hh_kx {cb g : Nat} {w w' : World} {v0 v1 v2 v3 v4 v5 v6 v7 : Value} (h : Hh w g v0 v1 v2 v3 v4 v5 v6 v7) (k : Kx cb w w') (hne : g ≠ cb) : Hh w' g v0 v1 v2 v3 v4 v5 v6 v7 := by
  have e : w'.heap[g]? = w.heap[g]? := k.block g h.lt hne
  have c := fun (o : Nat) => World.cell?_of_block (a := ⟨g, o, none⟩) e
  exact ⟨Nat.lt_of_lt_of_le h.lt k.size, (c 0).trans h.c0, (c 1).trans h.c1, (c 2).trans h.c2, (c 3).trans h.c3, (c 4).trans h.c4, (c 5).trans h.c5, (c 6).trans h.c6, (c 7).trans h.c7, fun o => (World.frozen?_of_block (a := ⟨g, o, none⟩) e).trans (h.fz o)⟩
/-- what holds while an answer's versions are drawn: a header in block hb, the answer's block rb, all since w0 -/
structure Pv (w0 : World) (cb : Nat) (a : Option Addr) (N cap P rb hb B : Nat) (w : World) : Prop where
  u : Cu w cb a N cap P
  k : Kx cb w0 w
  r : Hx w rb
  h : ∃ (f bi ve : Int) (d s t p : ByteArray) (b : Option Addr) (n c : Nat) (V : Nat → Int), Hh w hb (.int .i64 f) (.int .i64 bi) (.int .i64 ve) (.string d) (.string s) (.string t) (.string p) (.slice b n c) ∧ d.size ≤ 2000 ∧ s.size ≤ 2000 ∧ t.size ≤ 2000 ∧ p.size ≤ 2000 ∧ n ≤ 8 ∧ (∀ i, i < n → 0 ≤ V i ∧ V i ≤ 4294967295) ∧ Oi B w (.slice b n c) n V
theorem Pv.step {w0 w w' : World} {cb : Nat} {a : Option Addr} {N cap P Q rb hb B : Nat} (p : Pv w0 cb a N cap P rb hb B w) (h1 : rb ≠ cb) (h2 : hb ≠ cb) (h3 : cb < B) (u : Cu w' cb a N cap Q) (k : Kx cb w w') : Pv w0 cb a N cap Q rb hb B w' := by
  obtain ⟨f, bi, ve, d, s, t, p', b, n, c, V, h, z1, z2, z3, z4, z5, hV, o⟩ := p.h
  exact ⟨u, p.k.trans k, p.r.kx k h1, f, bi, ve, d, s, t, p', b, n, c, V, hh_kx h k h2, z1, z2, z3, z4, z5, hV, oi_keep o (fun q hq hl => k.block q hl (by omega))⟩
theorem Pv.mono {w0 w : World} {cb : Nat} {a : Option Addr} {N cap P Q rb hb B : Nat} (p : Pv w0 cb a N cap P rb hb B w) (h : P ≤ Q) : Pv w0 cb a N cap Q rb hb B w := ⟨p.u.mono h, p.k, p.r, p.h⟩
theorem Pv.same {w0 w w' : World} {cb : Nat} {a : Option Addr} {N cap P rb hb B : Nat} (p : Pv w0 cb a N cap P rb hb B w) (bb : Below w.heap.size w w') : Pv w0 cb a N cap P rb hb B w' := by
  obtain ⟨f, bi, ve, d, s, t, p', b, n, c, V, h, z1, z2, z3, z4, z5, hV, o⟩ := p.h
  exact ⟨p.u.same bb, p.k.trans (Kx.of bb), p.r.below bb, f, bi, ve, d, s, t, p', b, n, c, V, h.below bb, z1, z2, z3, z4, z5, hV, oi_keep o (fun q _ hl => bb.block q hl)⟩
/-- a row beyond a bound has grown -/
theorem Pv.grown {w0 w1 w w' : World} {cb : Nat} {a : Option Addr} {N cap P Q P0 rb hb B C : Nat} (h0 : Cu w0 cb a N cap P0) (p1 : Pv w0 cb a N cap P rb hb B w1) (k1 : Kx cb w1 w) (u : Cu w cb a N cap Q) (hC : w1.heap.size ≤ C) (h1 : rb ≠ cb) (h2 : hb ≠ cb) (h3 : cb < B) (bb : Below C w w') : Pv w0 cb a N cap Q rb hb B w' ∧ Kx cb w1 w' := by
  have k' : Kx cb w1 w' := ⟨bb.os.trans k1.os, bb.tape.trans k1.tape, bb.output.trans k1.output, Nat.le_trans k1.size bb.size, fun i hi hne => (bb.block i (by omega)).trans (k1.block i hi hne)⟩
  have u' := h0.within u bb (Nat.le_trans p1.k.size hC)
  exact ⟨p1.step h1 h2 h3 u' k', k'⟩
set_option maxHeartbeats 4000000 in
theorem drawVA_any (a : Option Addr) (N cap : Nat) (w : World) (hN : N ≤ 1048576) (h : Cd w a N) :
    Calls Try.prog 19 #[.slice a N cap] w fun e w' => ∃ (x y z : Int) (p q t u : ByteArray) (b : Option Addr) (n c : Nat) (V : Nat → Int) (rb : Option Addr) (m rc : Nat) (U : Nat → Int), e = .returned (.tuple #[hv x y z p q t u b n c, .slice rb m rc]) ∧ p.size ≤ 2000 ∧ q.size ≤ 2000 ∧ t.size ≤ 2000 ∧ u.size ≤ 2000 ∧ n ≤ 8 ∧ m ≤ 4 ∧ Ia w' b n c V ∧ Ia w' rb m rc U ∧ Below w.heap.size w w' := by
  have b0 := (Below.refl w.heap.size w).alloc (Nat.le_refl _) (.cells #[.int .i64 0, .int .i64 0, .int .i64 0, .string ⟨#[]⟩, .string ⟨#[]⟩, .string ⟨#[]⟩, .string ⟨#[]⟩, .slice none 0 0] 49)
  have U0 := hide (cu_first cap 77 (h.below b0))
  have r0 := Hx.new w 49 0 0 0 ⟨#[]⟩ ⟨#[]⟩ ⟨#[]⟩ ⟨#[]⟩
  clear h
  go_enter Try.func19, Try.ntmps19
  go_wp2_with fail
  have hz : (w.alloc (.cells #[.int .i64 0, .int .i64 0, .int .i64 0, .string ⟨#[]⟩, .string ⟨#[]⟩, .string ⟨#[]⟩, .string ⟨#[]⟩, .slice none 0 0] 49)).heap.size = w.heap.size + 1 := by simp
  generalize w.alloc (.cells #[.int .i64 0, .int .i64 0, .int .i64 0, .string ⟨#[]⟩, .string ⟨#[]⟩, .string ⟨#[]⟩, .string ⟨#[]⟩, .slice none 0 0] 49) = W0 at *
  rw [hz] at U0
  have b1 := (Below.refl W0.heap.size W0).alloc (Nat.le_refl _) (.cells #[.slice a N cap, .int .i64 0, .int .u64 0] 77)
  have r1 := r0.below b1
  have hz1 : (W0.alloc (.cells #[.slice a N cap, .int .i64 0, .int .u64 0] 77)).heap.size = w.heap.size + 1 + 1 := by simp [hz]
  generalize W0.alloc (.cells #[.slice a N cap, .int .i64 0, .int .u64 0] 77) = W1 at *
  refine (header_any (w.heap.size + 1) a N cap 0 _ hN (by omega) (unhide U0)).mono ?_
  rintro e w2 ⟨f, bi, ve, d, s, t, p, b, n, c, V, rfl, h1, h2, h3, h4, h5, h6, h7, u2, k2⟩
  have bb := (Below.refl w2.heap.size w2).alloc (Nat.le_refl _) (.cells #[.int .i64 f, .int .i64 bi, .int .i64 ve, .string d, .string s, .string t, .string p, .slice b n c] 49)
  have H3 := Hh.new w2 49 (.int .i64 f) (.int .i64 bi) (.int .i64 ve) (.string d) (.string s) (.string t) (.string p) (.slice b n c)
  have hcb : w.heap.size + 1 < w2.heap.size := by have := k2.size; omega
  have B0 : Hid (Below w.heap.size w W1) := b0.trans (b1.mono (by omega))
  have UW := hide (unhide U0)
  have P3 : Hid (Pv W1 (w.heap.size + 1) a N cap (0 + 1000) w.heap.size w2.heap.size (w.heap.size + 1 + 1) (w2.alloc (.cells #[.int .i64 f, .int .i64 bi, .int .i64 ve, .string d, .string s, .string t, .string p, .slice b n c] 49))) :=
    ⟨u2.same bb, k2.trans (Kx.of bb), (r1.kx k2 (by omega)).below bb, f, bi, ve, d, s, t, p, b, n, c, V, H3, h1, h2, h3, h4, h5, h6, oi_keep (by rw [← hz1]; exact h7) (fun q _ hl => bb.block q hl)⟩
  clear u2 k2 h6 h7 b0 b1 r0 r1 U0 H3 bb h1 h2 h3 h4 h5
  go_wp2_with fail
  generalize w2.alloc (.cells #[.int .i64 f, .int .i64 bi, .int .i64 ve, .string d, .string s, .string t, .string p, .slice b n c] 49) = W3 at *
  generalize w2.heap.size = hb at *
  refine (one_any (w.heap.size + 1) a N cap (0 + 1000) 2 _ hN (by omega) (by omega) (by omega) (unhide P3).u).mono ?_
  rintro e w4 ⟨rv, rfl, uu, kk⟩
  have P4 := hide ((unhide P3).step (by omega) (by omega) (by omega) uu kk)
  clear uu kk P3
  go_upto_if 14 with fail
  go_cut [] (fun wx => Pv W1 (w.heap.size + 1) a N cap (0 + 1010) w.heap.size hb (w.heap.size + 1 + 1) wx)
  case first =>
    cases rv with
    | true =>
      go_wp2_with fail
      refine (pick_any (w.heap.size + 1) a N cap (0 + 1000 + 2) 3 _ hN (by omega) (by omega) (by omega) (unhide P4).u).mono ?_
      rintro e w5 ⟨x5, rfl, hx0, hx1, uu, kk⟩
      have P5 := hide ((unhide P4).step (by omega) (by omega) (by omega) uu kk)
      clear uu kk P4
      obtain ⟨f', bi', ve', d', s', t', p', b', n', c', V', H5, z1, z2, z3, z4, z5, hV, o5⟩ := (unhide P5).h
      obtain ⟨y0, y1, y2, y3, y4, y5, y6, y7, y8, yf⟩ := id H5
      have g0 := yf 0
      have g1 := yf 1
      have g2 := yf 2
      have g3 := yf 3
      have g4 := yf 4
      have g5 := yf 5
      have g6 := yf 6
      have g7 := yf 7
      go_wp2_with fail
      go_meet
      have HN := (((((((H5.s0 (u := .int .i64 0)).s1 (u := .int .i64 0)).s2 (u := .int .i64 (1 + x5))).s3 (u := .string ⟨#[100, 101, 115, 116]⟩)).s4 (u := .string ⟨#[115, 114, 99]⟩)).s5 (u := .string ⟨#[]⟩)).s6 (u := .string ⟨#[112]⟩)).s7 (u := .slice none 0 0)
      refine ⟨?_, ?_, ?_, 0, 0, 1 + x5, ⟨#[100, 101, 115, 116]⟩, ⟨#[115, 114, 99]⟩, ⟨#[]⟩, ⟨#[112]⟩, none, 0, 0, fun _ => 0, HN, by show 4 ≤ _; omega, by show 3 ≤ _; omega, by show 0 ≤ _; omega, by show 1 ≤ _; omega, by omega, fun i hi => absurd hi (Nat.not_lt_zero i), Oi.nil _ _ _⟩
      · have hu := (unhide P5).u.mono (Q := 0 + 1010) (by omega)
        iterate 8 refine Cu.setNew (unhide UW) ?_ (by omega) _ _
        exact hu
      · iterate 8 refine Kx.setNew ?_ (by show W1.heap.size ≤ hb; omega) _
        exact (unhide P5).k
      · iterate 8 refine Hx.other ?_ _ (by omega)
        exact (unhide P5).r
    | false =>
      go_wp2_with fail
      go_meet
      exact (unhide P4).mono (by omega)
  case rest =>
  have P6 := hide hcut
  clear hcut P4
  go_wp2_with fail
  refine (pick_pos (w.heap.size + 1) a N cap (0 + 1010) 4 _ hN (by omega) (by omega) (by omega) (unhide P6).u).mono ?_
  rintro e w7 ⟨m0, rfl, hm0, uu, kk⟩
  have P7 := hide ((unhide P6).step (by omega) (by omega) (by omega) uu kk)
  clear uu kk P6
  obtain ⟨i0, hi, hz0, hz1', hz2⟩ := infoI_parts
  have hb7 : hb < w7.heap.size := by obtain ⟨_, _, _, _, _, _, _, _, _, _, _, H, _⟩ := (unhide P7).h; exact H.lt
  go_wp2_with fail
  go_loopw [6, 7] (fun lv nv wr => ∃ (k m : Nat) (ra : Option Addr) (rc : Nat) (U : Nat → Int), k ≤ 3 ∧ nv = .int .i64 k ∧ lv = .slice ra m rc ∧ m + k ≤ 3 ∧ Oi w7.heap.size wr (.slice ra m rc) m U ∧ (∀ i, i < m → 0 ≤ U i ∧ U i ≤ 4294967295) ∧ Pv W1 (w.heap.size + 1) a N cap (0 + 1010 + 2 + 2 * (3 - k)) w.heap.size hb (w.heap.size + 1 + 1) wr ∧ Kx (w.heap.size + 1) w7 wr) (fun _ nv _ => (intOf nv).toNat)
  case atStart => exact ⟨m0, 0, none, 0, fun _ => 0, by omega, rfl, rfl, by omega, Oi.nil _ _ _, fun i hi => absurd hi (Nat.not_lt_zero i), (unhide P7).mono (by omega), Kx.refl _ _⟩
  case round =>
    obtain ⟨k, m, ra, rc, U, hk, rfl, rfl, hmk, oR, hU, pR, kR⟩ := hrel
    have OR := hide oR
    have HU := hide hU
    have PR := hide pR
    have KR := hide kR
    clear oR hU pR kR
    by_cases hk0 : k = 0
    · subst hk0
      obtain ⟨x, y, z, p', q', t', u', b', n', c', V', HH, z1, z2, z3, z4, z5, hV, oV⟩ := (unhide PR).h
      obtain ⟨y0, y1, y2, y3, y4, y5, y6, y7, y8, yf⟩ := id HH
      obtain ⟨q0, r0⟩ := (unhide PR).r.ci 0 (by omega)
      obtain ⟨q1, r1⟩ := (unhide PR).r.ci 1 (by omega)
      obtain ⟨q2, r2⟩ := (unhide PR).r.ci 2 (by omega)
      obtain ⟨q3, r3⟩ := (unhide PR).r.ct 3 (by omega) (by omega)
      obtain ⟨q4, r4⟩ := (unhide PR).r.ct 4 (by omega) (by omega)
      obtain ⟨q5, r5⟩ := (unhide PR).r.ct 5 (by omega) (by omega)
      obtain ⟨q6, r6⟩ := (unhide PR).r.ct 6 (by omega) (by omega)
      have r7 := (unhide PR).r.c7
      have f0 := (unhide PR).r.fz 0
      have f1 := (unhide PR).r.fz 1
      have f2 := (unhide PR).r.fz 2
      have f3 := (unhide PR).r.fz 3
      have f4 := (unhide PR).r.fz 4
      have f5 := (unhide PR).r.fz 5
      have f6 := (unhide PR).r.fz 6
      have f7 := (unhide PR).r.fz 7
      have OV := hide oV
      have HV := hide hV
      clear oV hV
      go_wp2
      refine bodyPost_ret (v := .tuple #[hv x y z p' q' t' u' b' n' c', .slice ra m rc]) (by simp [results, Try.results19, go_sem, r0, r1, r2, r3, r4, r5, r6, r7]) rfl ⟨x, y, z, p', q', t', u', b', n', c', V', ra, m, rc, U, rfl, z1, z2, z3, z4, z5, by omega, ?_, ?_, ?_⟩
      · refine oi_ia (B := w.heap.size + 1 + 1) (oi_keep (unhide OV) (fun q hq hl => ?_)) (unhide HV)
        iterate 8 rw [Below.heap_setCell _ _ _ _ (show q ≠ w.heap.size by omega)]
      · refine oi_ia (B := w7.heap.size) (oi_keep (unhide OR) (fun q hq hl => ?_)) (unhide HU)
        iterate 8 rw [Below.heap_setCell _ _ _ _ (show q ≠ w.heap.size by omega)]
      · iterate 8 refine Below.setCell ?_ (by simp) _
        exact (unhide B0).trans ((unhide PR).k.below (by omega) (by omega))
    · have hkp : (0 : Int) < (k : Int) := by omega
      go_wp2_with fail
      have hx := lit_cells wr [1, 2, 3, 4294967295, 0] 3 (fun x => 0 ≤ x ∧ x ≤ 4294967295) (by decide)
      have b1 := (Below.refl wr.heap.size wr).alloc (Nat.le_refl _) (.cells #[.int .i64 1, .int .i64 2, .int .i64 3, .int .i64 4294967295, .int .i64 0] 3)
      have hl1 : wr.heap.size < (wr.alloc (.cells #[.int .i64 1, .int .i64 2, .int .i64 3, .int .i64 4294967295, .int .i64 0] 3)).heap.size := by simp
      have hlc : wr.heap.size ≠ w.heap.size + 1 := by have := (unhide PR).u.lt; omega
      change ∀ i, i < 5 → ∃ x : Int, (0 ≤ x ∧ x ≤ 4294967295) ∧ (wr.alloc (.cells #[.int .i64 1, .int .i64 2, .int .i64 3, .int .i64 4294967295, .int .i64 0] 3)).cell? ⟨wr.heap.size, i, none⟩ = some (.int .i64 x) at hx
      have P8 := hide ((unhide PR).same b1)
      have O8 := hide (oi_keep (unhide OR) (fun q _ hl => b1.block q hl))
      have K8 := hide ((unhide KR).trans (Kx.of b1))
      generalize wr.alloc (.cells #[.int .i64 1, .int .i64 2, .int .i64 3, .int .i64 4294967295, .int .i64 0] 3) = WX at *
      refine (among_any (w.heap.size + 1) a N cap (0 + 1010 + 2 + 2 * (3 - k)) wr.heap.size 5 5 (fun x => 0 ≤ x ∧ x ≤ 4294967295) _ hN (by omega) (by omega) (by omega) hl1 hlc hx (unhide P8).u).mono ?_
      rintro e w9 ⟨rv, rfl, hrv, uu, kk⟩
      have P9 := hide ((unhide P8).step (by omega) (by omega) (by omega) uu kk)
      have O9 := hide (oi_keep (unhide O8) (fun q hq hl => kk.block q hl (by omega)))
      have K9 := hide ((unhide K8).trans kk)
      have HR := hide hrv
      clear uu kk P8 O8 K8 hx b1 hl1 hlc PR OR KR hrv
      have b2 := (Below.refl w9.heap.size w9).alloc (Nat.le_refl _) (.cells #[.int .i64 rv] 3)
      have PA := hide ((unhide P9).same b2)
      have OA := hide (oi_keep (unhide O9) (fun q _ hl => b2.block q hl))
      have KA := hide ((unhide K9).trans (Kx.of b2))
      have hnew : Hid (∀ j u, ([.int .i64 rv] : List Value)[j]? = some u → (w9.alloc (.cells #[.int .i64 rv] 3)).cell? ((⟨w9.heap.size, 0, none⟩ : Addr).add j) = some u) := fun j u hu => by
        cases j with
        | zero => simp at hu; subst hu; simp [Addr.add]
        | succ j => simp at hu
      have hzA : (w9.alloc (.cells #[.int .i64 rv] 3)).heap.size = w9.heap.size + 1 := by simp
      have hw9 : w7.heap.size ≤ w9.heap.size := (unhide K9).size
      clear b2 P9 O9 K9
      go_wp2_with (at_builtin; refine wpList_append_lies _ rfl _ _ 47 rfl w7.heap.size 3 i0 (.int .i64 0) 1 8 Try.underlying47 hi hz0 hz1' hz2 rfl (by decide) _ _ _ rfl (unhide OA) ⟨w9.heap.size, 0, none⟩ 1 1 [.int .i64 rv] rfl rfl (unhide hnew) (by intro u hu; simp at hu; subst hu; rfl) (by omega) ?c3 ?c4 ?c5 (w9.heap.size + 1) ?c6 ?_)
      case c3 => unfold maxLen; omega
      case c4 => omega
      case c5 => omega
      case c6 => exact hzA
      intro g8 cap8 w8 hown hgrow hat hlt8
      have bb : Below w7.heap.size _ w8 := Oi.below (unhide OA) hgrow (by omega)
      obtain ⟨PB, KB⟩ := Pv.grown (unhide UW) (unhide P7) (unhide KA) (unhide PA).u (Nat.le_refl _) (by omega) (by omega) (by omega) bb
      have NEW : Hid (Oi w7.heap.size w8 (.slice (some ⟨g8, 0, none⟩) (m + 1) cap8) (m + 1) (fun i => if i < m then U i else rv)) := by
        have e9 : iv m U ++ [.int .i64 rv] = iv (m + 1) (fun i => if i < m then U i else rv) := by
          rw [← iv_succ]
          congr 1
          · exact List.map_congr_left (fun i hi => by rw [List.mem_range] at hi; simp [hi])
          · simp
        show World.ownsRow _ _ _ _ _ _ _
        rw [← e9]
        exact hown
      have HPB := hide PB
      have HKB := hide KB
      clear hown hgrow hat hlt8 bb PB KB OA PA KA hnew
      go_wp2
      exact ⟨⟨k - 1, m + 1, some ⟨g8, 0, none⟩, cap8, _, by omega, by go_num, rfl, by omega, unhide NEW, snoc_in (unhide HU) (unhide HR), (unhide HPB).mono (by omega), unhide HKB⟩, by simp [intOf]; omega⟩
end Go.Proofs.Ytbabipaipbjlbaa.Dr
