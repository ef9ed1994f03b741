/-
  Contract: the model's reading of an answer of versions (l2Read): the loop over them.
-/
import Derived.Test.YtbabipaipbjlbaaLrfX
import Derived.Test.YtbabipaipbjlbaaHda
import Derived.Deep.RegionLaw
namespace Go.Proofs.Ytbabipaipbjlbaa
open Go.ChangeShapes Go.WideShapes Go.ChangeAt Go.RowKit
set_option linter.unusedVariables false
set_option maxRecDepth 100000

/-- the reader at rb: how much is left for it to do -/
def mr (rb : Nat) (s : ByteArray) (w : World) : Nat :=
  match w.cell? ⟨rb, 2, none⟩, w.cell? ⟨rb, 1, none⟩ with
  | some c, some q => if intOf c = 0 then s.size - (intOf q).toNat + 1 else 0
  | _, _ => 0
theorem mr_of {rb : Nat} {s : ByteArray} {w : World} {q : Nat} {c : Int} (h : Lr w rb s q c) : mr rb s w = if c = 0 then s.size - q + 1 else 0 := by
  unfold mr
  rw [h.c1, h.c2]
  simp only [intOf, Int.toNat_natCast]
  by_cases hc : c = 0 <;> simp [hc]
/-- what is left behind the versions: all of them, and the end; or bytes lacked -/
def VR (rb : Nat) (w : World) (s : ByteArray) (bi : Int) (d e : ByteArray) (p : Nat) (e0 : Ending) (w' : World) : Prop :=
  ∃ ra n rc V q c, e0 = .returned (hv 4 bi 0 d e sE sE ra n rc) ∧ Oi w.heap.size w' (.slice ra n rc) n V ∧ Lr w' rb s q c ∧ Kx rb w w' ∧ ((c = 0 ∧ q = s.size ∧ s.size = p + 4 * n ∧ V = wdA s p) ∨ (c = 1 ∧ ¬ ∃ m, s.size = p + 4 * m))
theorem Hh.behind {w w' : World} {b B : Nat} {v0 v1 v2 v3 v4 v5 v6 v7 : Value} (h : Hh w b v0 v1 v2 v3 v4 v5 v6 v7) (hk : Below B w w') (h1 : b < B) : Hh w' b v0 v1 v2 v3 v4 v5 v6 v7 :=
  have e : w'.heap[b]? = w.heap[b]? := hk.block b h1
  have c : ∀ o, w'.cell? ⟨b, o, none⟩ = w.cell? ⟨b, o, none⟩ := fun o => World.cell?_of_block (a := ⟨b, o, none⟩) e
  ⟨Nat.lt_of_lt_of_le h.lt hk.size, (c 0).trans h.c0, (c 1).trans h.c1, (c 2).trans h.c2, (c 3).trans h.c3, (c 4).trans h.c4, (c 5).trans h.c5, (c 6).trans h.c6, (c 7).trans h.c7, fun o => (World.frozen?_of_block (a := ⟨b, o, none⟩) e).trans (h.fz o)⟩
theorem Lr.behind {w w' : World} {rb p B : Nat} {s : ByteArray} {c0 : Int} (h : Lr w rb s p c0) (hk : Below B w w') (h1 : rb < B) : Lr w' rb s p c0 :=
  have e : w'.heap[rb]? = w.heap[rb]? := hk.block rb h1
  have c : ∀ o, w'.cell? ⟨rb, o, none⟩ = w.cell? ⟨rb, o, none⟩ := fun o => World.cell?_of_block (a := ⟨rb, o, none⟩) e
  ⟨Nat.lt_of_lt_of_le h.lt hk.size, (c 0).trans h.c0, (c 1).trans h.c1, (c 2).trans h.c2, fun o => (World.frozen?_of_block (a := ⟨rb, o, none⟩) e).trans (h.fz o)⟩
theorem iv_congr {n : Nat} {V V' : Nat → Int} (h : ∀ i, i < n → V i = V' i) : iv n V = iv n V' := by
  unfold iv
  refine List.map_congr_left fun i hi => ?_
  rw [h i (by simpa using hi)]
/-- what a round leaves -/
theorem vround (w : World) (rb hb B0 k rc g cap' q' : Nat) (ra : Option Addr) (s : ByteArray) (bi c' X : Int) (d e : ByteArray) (V V' : Nat → Int) (W w1 w' : World) (hlz : w.heap.size < B0) (hzh : w.heap.size < hb) (hhb : hb < B0) (hrb : rb < B0) (hne : w.heap.size ≠ rb) (hneh : hb ≠ rb) (hB : B0 ≤ W.heap.size)
    (H : Hh W hb (.int .i64 4) (.int .i64 bi) (.int .i64 0) (.string d) (.string e) (.string sE) (.string sE) (.slice ra k rc)) (Z : Zh W w.heap.size) (K : Kx rb w W) (R : Lr w1 rb s q' c') (Q : Kx rb W.drew w1) (Bk : Below B0 (w1.alloc (.cells #[.int .i64 X] 3)) w')
    (O : w'.ownsRow B0 3 1 (.slice (some ⟨g, 0, none⟩) (k + 1) cap') (k + 1) (iv k V ++ [.int .i64 X])) (hV : ∀ i, i < k → V i = V' i) (hX : V' k = X) :
    Hh (w'.setCell ⟨hb, 7, none⟩ (.slice (some ⟨g, 0, none⟩) (k + 1) cap')) hb (.int .i64 4) (.int .i64 bi) (.int .i64 0) (.string d) (.string e) (.string sE) (.string sE) (.slice (some ⟨g, 0, none⟩) (k + 1) cap') ∧ Zh (w'.setCell ⟨hb, 7, none⟩ (.slice (some ⟨g, 0, none⟩) (k + 1) cap')) w.heap.size ∧ Oi B0 (w'.setCell ⟨hb, 7, none⟩ (.slice (some ⟨g, 0, none⟩) (k + 1) cap')) (.slice (some ⟨g, 0, none⟩) (k + 1) cap') (k + 1) V' ∧ Lr (w'.setCell ⟨hb, 7, none⟩ (.slice (some ⟨g, 0, none⟩) (k + 1) cap')) rb s q' c' ∧ Kx rb w (w'.setCell ⟨hb, 7, none⟩ (.slice (some ⟨g, 0, none⟩) (k + 1) cap')) ∧ B0 ≤ (w'.setCell ⟨hb, 7, none⟩ (.slice (some ⟨g, 0, none⟩) (k + 1) cap')).heap.size := by
  have B1 := (Below.refl w1.heap.size w1).alloc (Nat.le_refl _) (.cells #[.int .i64 X] 3)
  have D : Below W.heap.size W W.drew := (Below.refl _ _).drew
  refine ⟨((((H.below D).kx Q hneh).below B1).behind Bk hhb).s7, ((((Z.below D).kx Q hne).below B1).behind Bk hlz).other (by omega), Oi.other ?_ hhb, ((R.below B1).behind Bk hrb).other hneh, ((((K.trans (Kx.of D)).trans Q).trans (Kx.of B1)).behind (Bk.mono (by omega))).fresh (by omega), ?_⟩
  · show w'.ownsRow _ _ _ _ _ _
    rw [← iv_succ, ← iv_congr hV, hX]
    exact O
  · have h1 := Q.size
    have h2 := B1.size
    have h3 := Bk.size
    rw [World.size_drew] at h1
    simp only [World.size_setCell]
    omega
theorem vpush (w : World) (rb hb B0 : Nat) (ra : Option Addr) (k rc : Nat) (W w1 : World) (x : Int) (V : Nat → Int) (hB : B0 ≤ W.heap.size) (hrb : rb < B0) (hhb : hb < B0) (hO : Oi B0 W (.slice ra k rc) k V) (q1 : Kx rb W.drew w1) (f7 : W.frozen? ⟨hb, 7, none⟩ = false) (g7 : W.cell? ⟨hb, 7, none⟩ = some (.slice ra k rc)) (lh : hb < W.heap.size) (hne : hb ≠ rb) :
    Hid ((w1.alloc (.cells #[.int .i64 x] 3)).ownsRow B0 3 1 (.slice ra k rc) k (iv k V)) ∧ Hid ((w1.alloc (.cells #[.int .i64 x] 3)).heap.size = w1.heap.size + 1) ∧
    Hid (∀ j u, ([.int .i64 x] : List Value)[j]? = some u → (w1.alloc (.cells #[.int .i64 x] 3)).cell? ((⟨w1.heap.size, 0, none⟩ : Addr).add j) = some u) ∧ Hid (∀ u ∈ ([.int .i64 x] : List Value), u.oneCell' = true) ∧
    w1.cell? ⟨hb, 7, none⟩ = some (.slice ra k rc) ∧ (w1.alloc (.cells #[.int .i64 x] 3)).cell? ⟨hb, 7, none⟩ = some (.slice ra k rc) ∧
    Hid (∀ w', (w1.alloc (.cells #[.int .i64 x] 3)).grownBy w' (Value.slice ra k rc).ownBlock → w'.cell? ⟨hb, 7, none⟩ = some (.slice ra k rc) ∧ w'.frozen? ⟨hb, 7, none⟩ = false ∧ Below B0 (w1.alloc (.cells #[.int .i64 x] 3)) w') := by
  have kd : Kx rb W w1 := (Kx.of (Below.refl _ _).drew).trans q1
  obtain ⟨a1, a2, a3, a4⟩ := pushed B0 rb ra k rc w W w1 x V hB hrb hO kd
  have c1 : w1.cell? ⟨hb, 7, none⟩ = some (.slice ra k rc) := (kd.cell (p := ⟨hb, 7, none⟩) lh hne).trans g7
  have z1 : W.heap.size ≤ w1.heap.size := kd.size
  have B1 := (Below.refl w1.heap.size w1).alloc (Nat.le_refl _) (.cells #[.int .i64 x] 3)
  have c2 : (w1.alloc (.cells #[.int .i64 x] 3)).cell? ⟨hb, 7, none⟩ = some (.slice ra k rc) := (B1.cell (p := ⟨hb, 7, none⟩) (by show hb < _; omega)).trans c1
  have f2 : (w1.alloc (.cells #[.int .i64 x] 3)).frozen? ⟨hb, 7, none⟩ = false := ((bcell B1).2 hb 7 (by omega)).trans ((kd.frozen (p := ⟨hb, 7, none⟩) lh hne).trans f7)
  refine ⟨a1, a2, a3, a4, c1, c2, fun w' hg => ?_⟩
  have Bk := Oi.below (V := V) (unhide a1) hg (by have := unhide a2; omega)
  have e : w'.heap[hb]? = (w1.alloc (.cells #[.int .i64 x] 3)).heap[hb]? := Bk.block hb hhb
  exact ⟨(World.cell?_of_block (a := ⟨hb, 7, none⟩) e).trans c2, (World.frozen?_of_block (a := ⟨hb, 7, none⟩) e).trans f2, Bk⟩
set_option maxHeartbeats 4000000 in
theorem read_vc (rb short : Nat) (s : ByteArray) (w : World) (hs : s.size ≤ 1048576) (h0 : 0 < s.size) (h64 : bits .and .i64 (at8 s 0) 64 = 64) (hl : ¬ at8 s 0 < 128) (hfm : at8 s 0 / 16 % 4 = 0) (hve : vN s = 0) (hc : (i2 s).c = 0) (h : Lr w rb s 0 0) :
    Calls Try.prog 58 #[.pointer (some ⟨rb, 0, none⟩), .int .i64 short] w (VR rb w s (at8 s 0 % 16) (i1 s).t (i2 s).t (i2 s).p) := by
  have hne : w.heap.size ≠ rb := by have := h.lt; omega
  have HK := hide (takeM_ok rb 0 1 s (wZ w) hs (by omega) (h.below (wZ_b w)))
  have HB := hide (fun W => l1BigS_any (s.extract 0 (0 + 1)) W (by rw [piece_size s 0 1 (by omega)]; omega))
  rw [big_one s 0 h0] at HB
  have e15 := b15 s 0
  have e3 := (b3 s 0).trans hfm
  clear h
  have hx1 := v4_le h0
  have hx2 : (i1 s).p ≤ s.size := idT_le hx1
  have hx3 : (i2 s).p ≤ s.size := idT_le hx2
  have HV := hide (fun W (hW : Lr W rb s 1 0) => takeM_any rb 1 0 4 s W hs (by omega) (by omega) hW)
  have HW := hide (fun W => l1BigS_any (v4 s).t W (Nat.le_trans takeT_size hs))
  have HD := hide (fun W (hW : Lr W rb s (v4 s).p (v4 s).c) => idM_any rb (v4 s).p (v4 s).c s W hs hx1 hW)
  have HE := hide (fun W (hW : Lr W rb s (i1 s).p (i1 s).c) => idM_any rb (i1 s).p (i1 s).c s W hs hx2 hW)
  change Hid (∀ W, Lr W rb s 1 0 → Calls Try.prog 82 #[.pointer (some ⟨rb, 0, none⟩), .int .i64 4] W fun e w' => e = .returned (.string (v4 s).t) ∧ Lr w' rb s (v4 s).p (v4 s).c ∧ Kx rb W w') at HV
  change Hid (∀ W, Calls Try.prog 81 #[.string (v4 s).t] W fun e w' => e = .returned (.int .i64 (vN s)) ∧ w' = W) at HW
  change Hid (∀ W, Lr W rb s (v4 s).p (v4 s).c → Calls Try.prog 83 #[.pointer (some ⟨rb, 0, none⟩)] W fun e w' => e = .returned (.string (i1 s).t) ∧ Lr w' rb s (i1 s).p (i1 s).c ∧ Kx rb W w') at HD
  change Hid (∀ W, Lr W rb s (i1 s).p (i1 s).c → Calls Try.prog 83 #[.pointer (some ⟨rb, 0, none⟩)] W fun e w' => e = .returned (.string (i2 s).t) ∧ Lr w' rb s (i2 s).p (i2 s).c ∧ Kx rb W w') at HE
  rw [hc] at HE
  clear hc hfm
  generalize i2 s = e2 at *
  generalize i1 s = d2 at *
  generalize vN s = ve at *
  generalize v4 s = v at *
  have hb := at8_in s 0
  generalize at8 s 0 = b at *
  subst hve
  go_enter Try.func58, Try.ntmps58
  go_wp2_with fail
  refine (unhide HK).mono ?_
  rintro e w2 ⟨rfl, k1, q1⟩
  go_wp2_with fail
  refine (unhide HB _).mono ?_
  rintro e w2' ⟨rfl, rfl⟩
  have k1 : Lr w2' rb s 1 0 := k1
  have c2 := k1.c2
  have lt1 := k1.lt
  have hneh : w2'.heap.size ≠ rb := by omega
  have Z2 := (wZ_h w).kx q1 hne
  have hwl := Z2.lt
  go_wp2_with fail
  with_reducible refine (unhide HV _ (k1.below ((Below.refl _ _).alloc (Nat.le_refl _) _))).mono ?_
  rintro e w3 ⟨rfl, k3, q3⟩
  have q2 := (((Kx.of (wZ_b w)).trans q1).alloc _).trans q3
  have Z3 := (Z2.below ((Below.refl _ _).alloc (Nat.le_refl _) _)).kx q3 hne
  have H3 := (Hh.new w2' _ _ _ _ _ _ _ _ _).kx q3 hneh
  clear Z2 c2 q1 k1 q3 HK HV HB
  go_wp2_with fail
  with_reducible refine (unhide HW _).mono ?_
  rintro e w3' ⟨rfl, rfl⟩
  have g2 := H3.c2
  have f2 := H3.fz 2
  have gl := H3.lt
  go_wp2_with fail
  with_reducible refine (unhide HD (w3'.setCell ⟨w2'.heap.size, 2, none⟩ (.int .i64 0)) (k3.other hneh)).mono ?_
  rintro e w4 ⟨rfl, k4, q4⟩
  have H4 := (H3.s2 (u := .int .i64 0)).kx q4 hneh
  have Z4 := (Z3.other (b' := w2'.heap.size) (i := 2) (u := .int .i64 0) (by omega)).kx q4 hne
  have q5 := (q2.fresh (b := w2'.heap.size) (i := 2) (u := .int .i64 0) (by omega)).trans q4
  clear H3 Z3 q2 q4 k3 g2 f2 gl HW HD
  have g3 := H4.c3
  have f3 := H4.fz 3
  have gl := H4.lt
  go_wp2_with fail
  with_reducible refine (unhide HE (w4.setCell ⟨w2'.heap.size, 3, none⟩ (.string d2.t)) (k4.other hneh)).mono ?_
  rintro e w5 ⟨rfl, k5, q6⟩
  have H5 := (H4.s3 (u := .string d2.t)).kx q6 hneh
  have Z5 := (Z4.other (b' := w2'.heap.size) (i := 3) (u := .string d2.t) (by omega)).kx q6 hne
  have q7 := (q5.fresh (b := w2'.heap.size) (i := 3) (u := .string d2.t) (by omega)).trans q6
  clear H4 Z4 q5 q6 k4 g3 f3 gl HE
  have H6 := H5.s4 (u := .string e2.t)
  have g4 := H5.c4
  have g2 := H5.c2
  have g0 := H5.c0
  have f4 := H5.fz 4
  have f0 := H5.fz 0
  have gl := H5.lt
  have d0 := k5.c0
  have d1 := k5.c1
  have d2' := k5.c2
  have dl := k5.lt
  go_wp2_with fail
  have H6 := (H5.s4 (u := .string e2.t)).s0 (u := .int .i64 4)
  have Z6 := (Z5.other (b' := w2'.heap.size) (i := 4) (u := .string e2.t) (by omega)).other (b' := w2'.heap.size) (i := 0) (u := .int .i64 4) (by omega)
  have k6 := (k5.other (b := w2'.heap.size) (i := 4) (u := .string e2.t) hneh).other (b := w2'.heap.size) (i := 0) (u := .int .i64 4) hneh
  have q8 := (q7.fresh (b := w2'.heap.size) (i := 4) (u := .string e2.t) (by omega)).fresh (b := w2'.heap.size) (i := 0) (u := .int .i64 4) (by omega)
  generalize (w5.setCell ⟨w2'.heap.size, 4, none⟩ (.string e2.t)).setCell ⟨w2'.heap.size, 0, none⟩ (.int .i64 4) = w6 at H6 Z6 k6 q8 ⊢
  clear H5 Z5 k5 q7 g4 g2 g0 f4 f0 gl d0 d1 d2' dl
  obtain ⟨i0, hi, hz0, hz1, hz2⟩ := infoI_parts
  have hB0 : Hid (∃ B0, B0 = w6.heap.size) := ⟨_, rfl⟩
  obtain ⟨B0, hB0⟩ := unhide hB0
  have lh := H6.lt
  have lz := Z6.lt
  have lr := k6.lt
  have X6 := hide H6
  have Y6 := hide Z6
  have R6 := hide k6
  have Q6 := hide q8
  clear H6 Z6 k6 q8
  generalize w2'.heap.size = hb at *
  go_loopw [101] (fun _ wr => ∃ (k q : Nat) (V : Nat → Int) (c : Int) (ra : Option Addr) (rc : Nat), Hh wr hb (.int .i64 4) (.int .i64 (b % 16)) (.int .i64 0) (.string d2.t) (.string e2.t) (.string sE) (.string sE) (.slice ra k rc) ∧ Zh wr w.heap.size ∧ Oi B0 wr (.slice ra k rc) k V ∧ Lr wr rb s q c ∧ Kx rb w wr ∧ B0 ≤ wr.heap.size ∧ ((c = 0 ∧ q = e2.p + 4 * k ∧ q ≤ s.size ∧ V = wdA s e2.p) ∨ (c = 1 ∧ ¬ ∃ m, s.size = e2.p + 4 * m))) (fun _ wr => mr rb s wr)
  case atStart => exact ⟨0, e2.p, wdA s e2.p, 0, none, 0, unhide X6, unhide Y6, Oi.nil _ _ _, unhide R6, unhide Q6, by omega, Or.inl ⟨rfl, rfl, hx3, rfl⟩⟩
  case round =>
    obtain ⟨k, q, V, c, ra, rc, H, Z, O, R, K, hB, hcase⟩ := hrel
    clear X6 Y6 R6 Q6
    have ME := hide (mr_of R)
    have d0 := R.c0
    have d1 := R.c1
    have d2' := R.c2
    have HH := hide H
    have HZ := hide Z
    have HO := hide O
    have HR := hide R
    have HK := hide K
    clear H Z O R K
    rcases hcase with ⟨rfl, hq, hqs, rfl⟩ | ⟨rfl, hno⟩
    · have HQ := hide hq
      replace ME := hide (show mr rb s wr = s.size - q + 1 by rw [unhide ME, if_pos rfl])
      clear hq
      by_cases hlt : q < s.size
      · go_wp2_with fail
        go_quiet (fail)
        all_goals
          replace HH := hide ((unhide HH).below (below_drewN (Below.refl _ _) nq))
          replace HZ := hide ((unhide HZ).below (below_drewN (Below.refl _ _) nq))
          replace HO := hide ((unhide HO).kx (Kx.of (cb := rb) (below_drewN (Below.refl _ _) nq)) (by omega))
          replace HR := hide ((unhide HR).below (below_drewN (Below.refl _ _) nq))
          replace HK := hide ((unhide HK).trans (Kx.of (below_drewN (Below.refl _ _) nq)))
          replace hB : B0 ≤ (wr.drewN nq).heap.size := by simpa using hB
          clear d0 d1 d2'
          generalize wr.drewN nq = W at HH HZ HO HR HK hB ⊢
          have hk : k ≤ 1048576 := by have := unhide HQ; omega
          have g7 := (unhide HH).c7
          have f7 := (unhide HH).fz 7
          by_cases h4 : q + 4 ≤ s.size
          · have HT := hide (takeM_ok rb q 4 s W.drew hs h4 ((unhide HR).below (Below.refl _ _).drew))
            change Hid (Calls Try.prog 82 #[.pointer (some ⟨rb, 0, none⟩), .int .i64 4] W.drew fun e w' => e = .returned (.string (s.extract q (q + 4))) ∧ Lr w' rb s (q + 4) 0 ∧ Kx rb W.drew w') at HT
            have HBg := hide (fun W' => l1BigS_any (s.extract q (q + 4)) W' (by rw [ByteArray.size_extract]; omega))
            have HX : Hid (big 0 (s.extract q (q + 4)).data.toList = wdA s e2.p k) := by unfold wdA; rw [unhide HQ]; exact rfl
            rw [unhide HX] at HBg
            generalize hx : wdA s e2.p k = X at HBg
            have HX := hide hx
            clear hx
            generalize s.extract q (q + 4) = T at HT HBg
            have HP := hide (fun (w1 : World) (k1 : Lr w1 rb s (q + 4) 0) (q1 : Kx rb W.drew w1) => vpush w rb hb B0 ra k rc W w1 X (wdA s e2.p) hB (by omega) (by omega) (unhide HO) q1 ((unhide HH).fz 7) g7 (unhide HH).lt hneh)
            go_wp2_with fail
            have g7d : W.drew.cell? ⟨hb, 7, none⟩ = some (.slice ra k rc) := by simpa using g7
            go_region_law (first | (refine step_append_lies _ rfl _ _ 47 rfl B0 3 i0 (.int .i64 0) 1 8 Try.underlying47 hi hz0 hz1 hz2 rfl (by decide) (.slice ra k rc) k (iv k (wdA s e2.p)) rfl (unhide HO3) ⟨w1.heap.size, 0, none⟩ 1 1 [.int .i64 X] rfl rfl (unhide hnew) (unhide hone) (by omega) (by unfold maxLen; omega) (by omega) (by have := unhide hz3; omega) (w1.heap.size + 1) (unhide hz3) ?_; intro g cap' w' hown hgrow hat hlt'; obtain ⟨g7c, f7c, Bk⟩ := unhide HA w' hgrow; have HBk := hide Bk; have HOW := hide hown; clear hown hgrow hat Bk) | (go_simp; go_at_call 82; with_reducible refine (unhide HT).mono ?_; rintro e w1 ⟨rfl, k1, q1⟩; obtain ⟨HO3, hz3, hnew, hone, g7a, g7b, HA⟩ := unhide HP w1 k1 q1; have z1 := q1.size; rw [World.size_drew] at z1; have K1 := hide k1; have Q1 := hide q1; clear k1 q1) | (go_simp; go_at_call 81; with_reducible refine (unhide HBg _).mono ?_; rintro e w2 ⟨rfl, hw2⟩; subst w2))
            all_goals
              obtain ⟨r1, r2, r3, r4, r5, r6⟩ := vround w rb hb B0 k rc g cap' (q + 4) ra s (b % 16) 0 X d2.t e2.t (wdA s e2.p) (wdA s e2.p) W w1 w' (by omega) (by omega) (by omega) (by omega) hne hneh hB (unhide HH) (unhide HZ) (unhide HK) (unhide K1) (unhide Q1) (unhide HBk) (unhide HOW) (fun _ _ => rfl) (unhide HX)
              have M1 := mr_of r4
              have M2 := unhide ME
              have hq := unhide HQ
              rw [if_pos rfl] at M1
              generalize w'.setCell ⟨hb, 7, none⟩ (.slice (some ⟨g, 0, none⟩) (k + 1) cap') = W9 at r1 r2 r3 r4 r5 r6 M1 ⊢
              have FIN : Hid ((∃ (k q : Nat) (V : Nat → Int) (c : Int) (ra : Option Addr) (rc : Nat), Hh W9 hb (.int .i64 4) (.int .i64 (b % 16)) (.int .i64 0) (.string d2.t) (.string e2.t) (.string sE) (.string sE) (.slice ra k rc) ∧ Zh W9 w.heap.size ∧ Oi B0 W9 (.slice ra k rc) k V ∧ Lr W9 rb s q c ∧ Kx rb w W9 ∧ B0 ≤ W9.heap.size ∧ ((c = 0 ∧ q = e2.p + 4 * k ∧ q ≤ s.size ∧ V = wdA s e2.p) ∨ (c = 1 ∧ ¬ ∃ m, s.size = e2.p + 4 * m))) ∧ mr rb s W9 < mr rb s wr) := ⟨⟨k + 1, q + 4, wdA s e2.p, 0, some ⟨g, 0, none⟩, cap', r1, r2, r3, r4, r5, r6, Or.inl ⟨rfl, by omega, by omega, rfl⟩⟩, by omega⟩
              clear r1 r2 r3 r4 r5 r6 M1 M2 hq HOW HBk HO3 hnew hone HA
              go_wp2
              exact unhide FIN
          · have HT := hide (takeM_short rb q 4 s W.drew hs hqs (by omega) ((unhide HR).below (Below.refl _ _).drew))
            change Hid (Calls Try.prog 82 #[.pointer (some ⟨rb, 0, none⟩), .int .i64 4] W.drew fun e w' => e = .returned (.string sE) ∧ Lr w' rb s q 1 ∧ Kx rb W.drew w') at HT
            have HBg := hide (fun W' => l1BigS_any sE W' (by show 0 ≤ _; omega))
            rw [big_nil] at HBg
            have HX : Hid ((fun i => if i < k then wdA s e2.p i else 0) k = (0 : Int)) := if_neg (Nat.lt_irrefl k)
            have HV : Hid (∀ i, i < k → wdA s e2.p i = (fun i => if i < k then wdA s e2.p i else 0) i) := fun i hi => (if_pos hi).symm
            have HP := hide (fun (w1 : World) (k1 : Lr w1 rb s q 1) (q1 : Kx rb W.drew w1) => vpush w rb hb B0 ra k rc W w1 0 (wdA s e2.p) hB (by omega) (by omega) (unhide HO) q1 ((unhide HH).fz 7) g7 (unhide HH).lt hneh)
            go_wp2_with fail
            have g7d : W.drew.cell? ⟨hb, 7, none⟩ = some (.slice ra k rc) := by simpa using g7
            go_region_law (first | (refine step_append_lies _ rfl _ _ 47 rfl B0 3 i0 (.int .i64 0) 1 8 Try.underlying47 hi hz0 hz1 hz2 rfl (by decide) (.slice ra k rc) k (iv k (wdA s e2.p)) rfl (unhide HO3) ⟨w1.heap.size, 0, none⟩ 1 1 [.int .i64 0] rfl rfl (unhide hnew) (unhide hone) (by omega) (by unfold maxLen; omega) (by omega) (by have := unhide hz3; omega) (w1.heap.size + 1) (unhide hz3) ?_; intro g cap' w' hown hgrow hat hlt'; obtain ⟨g7c, f7c, Bk⟩ := unhide HA w' hgrow; have HBk := hide Bk; have HOW := hide hown; clear hown hgrow hat Bk) | (go_simp; go_at_call 82; with_reducible refine (unhide HT).mono ?_; rintro e w1 ⟨rfl, k1, q1⟩; obtain ⟨HO3, hz3, hnew, hone, g7a, g7b, HA⟩ := unhide HP w1 k1 q1; have z1 := q1.size; rw [World.size_drew] at z1; have K1 := hide k1; have Q1 := hide q1; clear k1 q1) | (go_simp; go_at_call 81; with_reducible refine (unhide HBg _).mono ?_; rintro e w2 ⟨rfl, hw2⟩; subst w2))
            all_goals
              obtain ⟨r1, r2, r3, r4, r5, r6⟩ := vround w rb hb B0 k rc g cap' q ra s (b % 16) 1 0 d2.t e2.t (wdA s e2.p) (fun i => if i < k then wdA s e2.p i else 0) W w1 w' (by omega) (by omega) (by omega) (by omega) hne hneh hB (unhide HH) (unhide HZ) (unhide HK) (unhide K1) (unhide Q1) (unhide HBk) (unhide HOW) (unhide HV) (unhide HX)
              have M1 := mr_of r4
              have M2 := unhide ME
              have hq := unhide HQ
              rw [if_neg (by decide)] at M1
              generalize w'.setCell ⟨hb, 7, none⟩ (.slice (some ⟨g, 0, none⟩) (k + 1) cap') = W9 at r1 r2 r3 r4 r5 r6 M1 ⊢
              have FIN : Hid ((∃ (k q : Nat) (V : Nat → Int) (c : Int) (ra : Option Addr) (rc : Nat), Hh W9 hb (.int .i64 4) (.int .i64 (b % 16)) (.int .i64 0) (.string d2.t) (.string e2.t) (.string sE) (.string sE) (.slice ra k rc) ∧ Zh W9 w.heap.size ∧ Oi B0 W9 (.slice ra k rc) k V ∧ Lr W9 rb s q c ∧ Kx rb w W9 ∧ B0 ≤ W9.heap.size ∧ ((c = 0 ∧ q = e2.p + 4 * k ∧ q ≤ s.size ∧ V = wdA s e2.p) ∨ (c = 1 ∧ ¬ ∃ m, s.size = e2.p + 4 * m))) ∧ mr rb s W9 < mr rb s wr) := ⟨⟨k + 1, q, (fun i => if i < k then wdA s e2.p i else 0), 1, some ⟨g, 0, none⟩, cap', r1, r2, r3, r4, r5, r6, Or.inr ⟨rfl, by rintro ⟨m, hm⟩; omega⟩⟩, by omega⟩
              clear r1 r2 r3 r4 r5 r6 M1 M2 hq HOW HBk HO3 hnew hone HA
              go_wp2
              exact unhide FIN
      · go_wp2_with fail
        go_quiet (fail)
        all_goals
          have hz : Hid (q = s.size) := by show q = _; omega
          replace HH := hide ((unhide HH).below (below_drewN (Below.refl _ _) nq))
          replace HZ := hide ((unhide HZ).below (below_drewN (Below.refl _ _) nq))
          replace HO := hide ((unhide HO).kx (Kx.of (cb := rb) (below_drewN (Below.refl _ _) nq)) (by omega))
          replace HR := hide ((unhide HR).below (below_drewN (Below.refl _ _) nq))
          replace HK := hide ((unhide HK).trans (Kx.of (below_drewN (Below.refl _ _) nq)))
          replace hB : B0 ≤ (wr.drewN nq).heap.size := by simpa using hB
          clear d0 d1 d2'
          generalize wr.drewN nq = W at HH HZ HO HR HK hB ⊢
          obtain ⟨y0, y1, y2, y3, y4, y5, y6, y7, y8, yf⟩ := unhide HZ
          obtain ⟨x0, x1, x2, x3, x4, x5, x6, x7, x8, xf⟩ := unhide HH
          go_wp2_with fail
          refine bodyPost_ret (v := hv 4 (b % 16) 0 d2.t e2.t sE sE ra k rc) (by simp [results, Try.results58, go_sem, y1, y2, y3, y4, y5, y6, y7, y8]) rfl ⟨ra, k, rc, wdA s e2.p, q, 0, rfl, ?_, ?_, ?_, Or.inl ⟨rfl, unhide hz, by have h1 := unhide hz; have h2 := unhide HQ; omega, rfl⟩⟩
          · refine Oi.mono (base' := B0) ?_ (by omega)
            iterate 8 refine Oi.other ?_ (by omega)
            exact unhide HO
          · iterate 8 refine Lr.other ?_ hne
            exact unhide HR
          · iterate 8 refine Kx.fresh ?_ (Nat.le_refl _)
            exact unhide HK
    · have HN := hide hno
      clear hno
      go_wp2_with fail
      go_quiet (fail)
      all_goals
        replace HH := hide ((unhide HH).below (below_drewN (Below.refl _ _) nq))
        replace HZ := hide ((unhide HZ).below (below_drewN (Below.refl _ _) nq))
        replace HO := hide ((unhide HO).kx (Kx.of (cb := rb) (below_drewN (Below.refl _ _) nq)) (by omega))
        replace HR := hide ((unhide HR).below (below_drewN (Below.refl _ _) nq))
        replace HK := hide ((unhide HK).trans (Kx.of (below_drewN (Below.refl _ _) nq)))
        replace hB : B0 ≤ (wr.drewN nq).heap.size := by simpa using hB
        clear d0 d1 d2'
        generalize wr.drewN nq = W at HH HZ HO HR HK hB ⊢
        obtain ⟨y0, y1, y2, y3, y4, y5, y6, y7, y8, yf⟩ := unhide HZ
        obtain ⟨x0, x1, x2, x3, x4, x5, x6, x7, x8, xf⟩ := unhide HH
        go_wp2_with fail
        refine bodyPost_ret (v := hv 4 (b % 16) 0 d2.t e2.t sE sE ra k rc) (by simp [results, Try.results58, go_sem, y1, y2, y3, y4, y5, y6, y7, y8]) rfl ⟨ra, k, rc, V, q, 1, rfl, ?_, ?_, ?_, Or.inr ⟨rfl, unhide HN⟩⟩
        · refine Oi.mono (base' := B0) ?_ (by omega)
          iterate 8 refine Oi.other ?_ (by omega)
          exact unhide HO
        · iterate 8 refine Lr.other ?_ hne
          exact unhide HR
        · iterate 8 refine Kx.fresh ?_ (Nat.le_refl _)
          exact unhide HK
end Go.Proofs.Ytbabipaipbjlbaa
