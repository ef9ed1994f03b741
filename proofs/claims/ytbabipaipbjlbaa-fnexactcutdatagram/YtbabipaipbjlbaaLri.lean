/-
  Contract: the model's reading of a long header (l2Read), a packet with a payload alone.
-/
import Derived.Test.YtbabipaipbjlbaaLrh
namespace Go.Proofs.Ytbabipaipbjlbaa
open Go.ChangeShapes Go.WideShapes Go.ChangeAt Go.RowKit
set_option linter.unusedVariables false
set_option maxRecDepth 100000

set_option maxHeartbeats 4000000 in
theorem read_pl (rb short : Nat) (s : ByteArray) (w : World) (hs : s.size ≤ 1048576) (h0 : 0 < s.size) (h64 : bits .and .i64 (at8 s 0) 64 = 64) (hl : ¬ at8 s 0 < 128) (fm : Int) (hfm : at8 s 0 / 16 % 4 = fm) (hf0 : (fm == 0) = false) (hf3 : (fm == 3) = false) (hve : (vN s == 0) = false) (h : Lr w rb s 0 0) :
    Calls Try.prog 58 #[.pointer (some ⟨rb, 0, none⟩), .int .i64 short] w fun e w' => e = .returned (hv fm (at8 s 0 % 16) (vN s) (i1 s).t (i2 s).t sE (textT s (i2 s).p (i2 s).c).t none 0 0) ∧ Lr w' rb s (textT s (i2 s).p (i2 s).c).p (textT s (i2 s).p (i2 s).c).c ∧ Kx rb w w' := by
  have hne : w.heap.size ≠ rb := by have := h.lt; omega
  have HK := hide (takeM_ok rb 0 1 s (wZ w) hs (by omega) (h.below (wZ_b w)))
  have HB := hide (fun W => l1BigS_any (s.extract 0 (0 + 1)) W (by rw [piece_size s 0 1 (by omega)]; omega))
  rw [big_one s 0 h0] at HB
  have e15 := b15 s 0
  have e3 := (b3 s 0).trans hfm
  clear h
  have hx1 := v4_le h0
  have hx2 : (i1 s).p ≤ s.size := idT_le hx1
  have hx3 : (i2 s).p ≤ s.size := idT_le hx2
  have HV := hide (fun W (hW : Lr W rb s 1 0) => takeM_any rb 1 0 4 s W hs (by omega) (by omega) hW)
  have HW := hide (fun W => l1BigS_any (v4 s).t W (Nat.le_trans takeT_size hs))
  have HD := hide (fun W (hW : Lr W rb s (v4 s).p (v4 s).c) => idM_any rb (v4 s).p (v4 s).c s W hs hx1 hW)
  have HE := hide (fun W (hW : Lr W rb s (i1 s).p (i1 s).c) => idM_any rb (i1 s).p (i1 s).c s W hs hx2 hW)
  have HY := hide (fun W (hW : Lr W rb s (i2 s).p (i2 s).c) => textM_any rb (i2 s).p (i2 s).c s W hs hx3 (nm_in s _ hx3).2.2 (nm_in s _ hx3).1 hW)
  generalize textT s (i2 s).p (i2 s).c = y at HY ⊢
  change Hid (∀ W, Lr W rb s 1 0 → Calls Try.prog 82 #[.pointer (some ⟨rb, 0, none⟩), .int .i64 4] W fun e w' => e = .returned (.string (v4 s).t) ∧ Lr w' rb s (v4 s).p (v4 s).c ∧ Kx rb W w') at HV
  change Hid (∀ W, Calls Try.prog 81 #[.string (v4 s).t] W fun e w' => e = .returned (.int .i64 (vN s)) ∧ w' = W) at HW
  change Hid (∀ W, Lr W rb s (v4 s).p (v4 s).c → Calls Try.prog 83 #[.pointer (some ⟨rb, 0, none⟩)] W fun e w' => e = .returned (.string (i1 s).t) ∧ Lr w' rb s (i1 s).p (i1 s).c ∧ Kx rb W w') at HD
  change Hid (∀ W, Lr W rb s (i1 s).p (i1 s).c → Calls Try.prog 83 #[.pointer (some ⟨rb, 0, none⟩)] W fun e w' => e = .returned (.string (i2 s).t) ∧ Lr w' rb s (i2 s).p (i2 s).c ∧ Kx rb W w') at HE
  generalize i2 s = e2 at *
  generalize i1 s = d2 at *
  generalize vN s = ve at *
  generalize v4 s = v at *
  have hb := at8_in s 0
  generalize at8 s 0 = b at *
  clear hfm
  go_enter Try.func58, Try.ntmps58
  go_wp2_with fail
  refine (unhide HK).mono ?_
  rintro e w2 ⟨rfl, k1, q1⟩
  go_wp2_with fail
  refine (unhide HB _).mono ?_
  rintro e w2' ⟨rfl, rfl⟩
  have k1 : Lr w2' rb s 1 0 := k1
  have c2 := k1.c2
  have lt1 := k1.lt
  have hneh : w2'.heap.size ≠ rb := by omega
  have Z2 := (wZ_h w).kx q1 hne
  have hwl := Z2.lt
  go_wp2_with fail
  with_reducible refine (unhide HV _ (k1.below ((Below.refl _ _).alloc (Nat.le_refl _) _))).mono ?_
  rintro e w3 ⟨rfl, k3, q3⟩
  have q2 := (((Kx.of (wZ_b w)).trans q1).alloc _).trans q3
  have Z3 := (Z2.below ((Below.refl _ _).alloc (Nat.le_refl _) _)).kx q3 hne
  have H3 := (Hh.new w2' _ _ _ _ _ _ _ _ _).kx q3 hneh
  clear Z2 c2 q1 k1 q3 HK HV HB
  go_wp2_with fail
  with_reducible refine (unhide HW _).mono ?_
  rintro e w3' ⟨rfl, rfl⟩
  have g2 := H3.c2
  have f2 := H3.fz 2
  have gl := H3.lt
  go_wp2_with fail
  with_reducible refine (unhide HD (w3'.setCell ⟨w2'.heap.size, 2, none⟩ (.int .i64 ve)) (k3.other hneh)).mono ?_
  rintro e w4 ⟨rfl, k4, q4⟩
  have H4 := (H3.s2 (u := .int .i64 ve)).kx q4 hneh
  have Z4 := (Z3.other (b' := w2'.heap.size) (i := 2) (u := .int .i64 ve) (by omega)).kx q4 hne
  have q5 := (q2.fresh (b := w2'.heap.size) (i := 2) (u := .int .i64 ve) (by omega)).trans q4
  clear H3 Z3 q2 q4 k3 g2 f2 gl HW HD
  have g3 := H4.c3
  have f3 := H4.fz 3
  have gl := H4.lt
  go_wp2_with fail
  with_reducible refine (unhide HE (w4.setCell ⟨w2'.heap.size, 3, none⟩ (.string d2.t)) (k4.other hneh)).mono ?_
  rintro e w5 ⟨rfl, k5, q6⟩
  have H5 := (H4.s3 (u := .string d2.t)).kx q6 hneh
  have Z5 := (Z4.other (b' := w2'.heap.size) (i := 3) (u := .string d2.t) (by omega)).kx q6 hne
  have q7 := (q5.fresh (b := w2'.heap.size) (i := 3) (u := .string d2.t) (by omega)).trans q6
  clear H4 Z4 q5 q6 k4 g3 f3 gl HE
  have H6 := H5.s4 (u := .string e2.t)
  have g4 := H5.c4
  have g2 := H5.c2
  have g0 := H5.c0
  have f4 := H5.fz 4
  have f0 := H5.fz 0
  have gl := H5.lt
  have d0 := k5.c0
  have d1 := k5.c1
  have d2' := k5.c2
  have dl := k5.lt
  go_wp2_with fail
  have H6 := H5.s4 (u := .string e2.t)
  have Z6 := Z5.other (b' := w2'.heap.size) (i := 4) (u := .string e2.t) (by omega)
  have k6 := k5.other (b := w2'.heap.size) (i := 4) (u := .string e2.t) hneh
  have q8 := q7.fresh (b := w2'.heap.size) (i := 4) (u := .string e2.t) (by omega)
  generalize w5.setCell ⟨w2'.heap.size, 4, none⟩ (.string e2.t) = w6 at H6 Z6 k6 q8 ⊢
  clear H5 Z5 k5 q7 g4 g2 g0 f4 f0 gl d0 d1 d2' dl
  have hw2 : ¬ w2'.heap.size = w.heap.size := by omega
  have HC := hide (unhide HY w6 k6)
  clear HY
  go_wp2_with fail
  with_reducible refine (unhide HC).mono ?_
  rintro e w7 ⟨rfl, k7, q9⟩
  have H7 := H6.kx q9 hneh
  have Z7 := Z6.kx q9 hne
  have q10 := q8.trans q9
  clear H6 Z6 k6 q8 q9 HC
  obtain ⟨y0, y1, y2, y3, y4, y5, y6, y7, y8, yf⟩ := Z7
  obtain ⟨x0, x1, x2, x3, x4, x5, x6, x7, x8, xf⟩ := H7
  go_wp2_with fail
  refine bodyPost_ret (v := hv fm (b % 16) ve d2.t e2.t sE y.t none 0 0) (by simp [results, Try.results58, go_sem, y1, y2, y3, y4, y5, y6, y7, y8]) rfl ⟨rfl, ?_, ?_⟩
  · iterate 8 refine Lr.other ?_ hne
    refine Lr.other ?_ hneh
    exact k7
  · iterate 8 refine Kx.fresh ?_ (Nat.le_refl _)
    exact q10.fresh (by omega)
end Go.Proofs.Ytbabipaipbjlbaa
