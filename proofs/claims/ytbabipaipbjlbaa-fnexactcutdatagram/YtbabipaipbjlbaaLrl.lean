/-
  Contract: the model's reading of a short header whose first byte is none (l2Read).
-/
import Derived.Test.YtbabipaipbjlbaaLre
namespace Go.Proofs.Ytbabipaipbjlbaa
open Go.ChangeShapes Go.WideShapes Go.ChangeAt Go.RowKit
set_option linter.unusedVariables false
set_option maxRecDepth 100000

set_option maxHeartbeats 2000000 in
theorem read_bad (rb short : Nat) (s : ByteArray) (w : World) (hs : s.size ≤ 1048576) (hsh : short ≤ 20) (h0 : 0 < s.size) (h64 : bits .and .i64 (at8 s 0) 64 = 64) (hl : at8 s 0 < 128) (h48 : (bits .and .i64 (at8 s 0) 48 != 0) = true) (h : Lr w rb s 0 0) :
    Calls Try.prog 58 #[.pointer (some ⟨rb, 0, none⟩), .int .i64 short] w fun e w' => e = .returned (hv 5 (at8 s 0 % 16) 0 sE sE sE sE none 0 0) ∧ Lr w' rb s 1 3 ∧ Kx rb w w' := by
  have hne : w.heap.size ≠ rb := by have := h.lt; omega
  have HK := hide (takeM_ok rb 0 1 s (wZ w) hs (by omega) (h.below (wZ_b w)))
  have HB := hide (fun W => l1BigS_any (s.extract 0 (0 + 1)) W (by rw [piece_size s 0 1 (by omega)]; omega))
  rw [big_one s 0 h0] at HB
  have e15 := b15 s 0
  clear h
  have HX := hide (fun W (hW : Lr W rb s 1 3) => takeM_code rb 1 short 3 s W rfl hW)
  have HY := hide (fun W (hW : Lr W rb s 1 3) => takeM_code rb 1 (IntKind.i64.wrap ((s.size : Int) - 1)) 3 s W rfl hW)
  have hb := at8_in s 0
  generalize at8 s 0 = b at *
  go_enter Try.func58, Try.ntmps58
  go_wp2_with fail
  refine (unhide HK).mono ?_
  rintro e w2 ⟨rfl, k1, q1⟩
  go_wp2_with fail
  refine (unhide HB _).mono ?_
  rintro e w2' ⟨rfl, rfl⟩
  have c2 := k1.c2
  have lt1 := k1.lt
  have hneh : w2'.heap.size ≠ rb := by omega
  have Z2 := (wZ_h w).kx q1 hne
  have y0 := Z2.lt
  have df := k1.fz 2
  go_wp2_with fail
  have N0 : Hh ((w2'.setCell ⟨rb, 2, none⟩ (.int .i64 3)).alloc (.cells #[.int .i64 5, .int .i64 (b % 16), .int .i64 0, .string sE, .string sE, .string sE, .string sE, nilS] 49)) w2'.heap.size (.int .i64 5) (.int .i64 (b % 16)) (.int .i64 0) (.string sE) (.string sE) (.string sE) (.string sE) nilS := by
    have := Hh.new (w2'.setCell ⟨rb, 2, none⟩ (.int .i64 3)) 49 (.int .i64 5) (.int .i64 (b % 16)) (.int .i64 0) (.string sE) (.string sE) (.string sE) (.string sE) nilS
    rwa [World.size_setCell] at this
  refine (unhide HX _ ((k1.note 3).below ((Below.refl _ _).alloc (Nat.le_refl _) _))).mono ?_
  rintro e w3 ⟨rfl, k3, q3⟩
  have hwl := Z2.lt
  have q2 := ((((Kx.of (wZ_b w)).trans q1).set 2 _).alloc _).trans q3
  have Z3 := ((Z2.other (b' := rb) (i := 2) (u := .int .i64 3) hne.symm).below ((Below.refl _ _).alloc (Nat.le_refl _) _)).kx q3 hne
  have H3 := N0.kx q3 hneh
  clear Z2 c2 y0 q1 k1 q3 HK HX
  have g3 := H3.c3
  have gf := H3.fz 3
  have gl := H3.lt
  go_wp2_with fail
  have k4 := k3.other (b := w2'.heap.size) (i := 3) (u := .string sE) hneh
  have Z4 := Z3.other (b' := w2'.heap.size) (i := 3) (u := .string sE) (by omega)
  have H4 := H3.s3 (u := .string sE)
  have q4 := q2.fresh (b := w2'.heap.size) (i := 3) (u := .string sE) (by omega)
  generalize w3.setCell ⟨w2'.heap.size, 3, none⟩ (.string sE) = w4 at k4 Z4 H4 q4 ⊢
  clear k3 Z3 H3 q2 g3 gf gl
  have d0 := k4.c0
  have d1 := k4.c1
  have HH := hide (H4.below (Below.refl _ _).drew)
  have HZ := hide (Z4.below (Below.refl _ _).drew)
  have k4d : Lr w4.drew rb s 1 3 := k4.below (Below.refl _ _).drew
  have HC := hide (unhide HY w4.drew k4d)
  clear H4 Z4 k4d HY
  go_region_with (go_at_call 82; with_reducible refine (unhide HC).mono ?_; rintro e w5 ⟨rfl, k5, q5⟩; have H5 := (unhide HH).kx q5 hneh; have g6 := H5.c6; have f6 := H5.fz 6; have gl := H5.lt)
  all_goals
    have Z5 := ((unhide HZ).kx q5 hne).other (b' := w2'.heap.size) (i := 6) (u := .string sE) (by omega)
    have H6 := H5.s6 (u := .string sE)
    have k6 := k5.other (b := w2'.heap.size) (i := 6) (u := .string sE) hneh
    have q6 := ((q4.trans (Kx.of (Below.refl _ _).drew)).trans q5).fresh (b := w2'.heap.size) (i := 6) (u := .string sE) (by omega)
    clear g6 f6 gl k5 q5 k4 q4 HH HZ d0 d1 H5
    generalize w5.setCell ⟨w2'.heap.size, 6, none⟩ (.string sE) = w6 at Z5 H6 k6 q6 ⊢
    obtain ⟨y0, y1, y2, y3, y4, y5, y6, y7, y8, yf⟩ := Z5
    obtain ⟨x0, x1, x2, x3, x4, x5, x6, x7, x8, xf⟩ := H6
    go_wp2_with fail
    refine bodyPost_ret (v := hv 5 (b % 16) 0 sE sE sE sE none 0 0) (by simp [results, Try.results58, go_sem, y1, y2, y3, y4, y5, y6, y7, y8]) rfl ⟨rfl, ?_, ?_⟩
    · iterate 8 refine Lr.other ?_ hne
      exact k6
    · iterate 8 refine Kx.fresh ?_ (Nat.le_refl _)
      exact q6
end Go.Proofs.Ytbabipaipbjlbaa
