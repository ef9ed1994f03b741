/-
  Contract: the model's header at the front of a text.
-/
import Derived.Test.YtbabipaipbjlbaaLro
import Derived.Test.YtbabipaipbjlbaaGhr
import Derived.Test.YtbabipaipbjlbaaRdh
namespace Go.Proofs.Ytbabipaipbjlbaa
open Go.ChangeShapes Go.WideShapes Go.ChangeAt Go.RowKit
set_option linter.unusedVariables false
set_option maxRecDepth 100000

/-- what l2Header leaves -/
def HM (w : World) (r : Option HR) (e0 : Ending) (w' : World) : Prop :=
  match r with
  | some x => ∃ ra rc, e0 = .returned (.tuple #[hv x.f x.bi x.ve x.d x.e x.t x.y ra x.m rc, .int .i64 x.q, .int .i64 0]) ∧ Oi w.heap.size w' (.slice ra x.m rc) x.m x.V ∧ Below w.heap.size w w'
  | none => ∃ c : Int, c ≠ 0 ∧ e0 = .returned (.tuple #[hv 0 0 0 sE sE sE sE none 0 0, .int .i64 0, .int .i64 c]) ∧ Below w.heap.size w w'
theorem Oi.kept {base : Nat} {w w' : World} {v : Value} {n : Nat} {V : Nat → Int} (h : Oi base w v n V) (hb : Below w.heap.size w w') : Oi base w' v n V := by
  refine ⟨h.1, ?_⟩
  rcases h.2 with hn | ⟨g, cap, cur, rfl, hg, hgg, rest⟩
  · exact .inl hn
  · refine .inr ⟨g, cap, cur, rfl, hg, ?_, rest⟩
    rw [hb.block g (Array.getElem?_eq_some_iff.1 hgg).1]
    exact hgg
theorem Oi.ia {base : Nat} {w : World} {ra : Option Addr} {n rc : Nat} {V : Nat → Int} (h : Oi base w (.slice ra n rc) n V) (hV : ∀ i, i < n → 0 ≤ V i ∧ V i ≤ 4294967295) : Ia w ra n rc V := by
  have hc := fun g => @World.ownsRow.cells w base 3 1 (.slice ra n rc) n (iv n V) h g
  rcases h.2 with ⟨hn, h0⟩ | ⟨g, cap, cur, hv, hg, hgg, rest⟩
  · exact Or.inl h0
  · injection hv with h1 h2 h3
    subst h1
    refine Or.inr ⟨g, 0, rfl, ⟨Or.inr (Array.getElem?_eq_some_iff.1 hgg).1, fun i hi => ?_, fun i hi => by have := hV i hi; omega⟩⟩
    have := hc g rfl i (.int .i64 (V i)) (by simp [iv, hi])
    rw [Addr.add_lit] at this
    exact this
set_option maxHeartbeats 4000000 in
theorem specHd (s : ByteArray) (short : Nat) (w : World) (hs : s.size ≤ 1048576) (hsh : short ≤ 20) :
    Calls Try.prog 27 #[.string s, .int .i64 short] w (HM w (hdR s short)) := by
  have z0 := wZ_h w
  have b0 := wZ_b w
  have hz0 : (wZ w).heap.size = w.heap.size + 1 := by simp [wZ]
  have l1 : Lr ((wZ w).alloc (.cells #[.string s, .int .i64 0, .int .i64 0] 95)) (wZ w).heap.size s 0 0 := ⟨by simp, by simp, by simp, by simp, fun o => by simp⟩
  have b1 : Below (wZ w).heap.size (wZ w) ((wZ w).alloc (.cells #[.string s, .int .i64 0, .int .i64 0] 95)) := (Below.refl _ _).alloc (Nat.le_refl _) _
  rw [hz0] at l1
  go_enter Try.func27, Try.ntmps27
  go_wp2_with fail
  change Calls _ _ _ ((wZ w).alloc (.cells #[.string s, .int .i64 0, .int .i64 0] 95)) _
  have z1 := Hh.below z0 b1
  have B1 := b0.trans (b1.mono b0.size)
  have hl1 : w.heap.size + 1 < ((wZ w).alloc (.cells #[.string s, .int .i64 0, .int .i64 0] 95)).heap.size := by simp [wZ]
  generalize (wZ w).alloc (.cells #[.string s, .int .i64 0, .int .i64 0] 95) = W1 at *
  refine (read_any (w.heap.size + 1) short s W1 hs hsh l1).mono ?_
  rintro e0 w2 ⟨f, bi, ve, d, e, t, y, ra, n, rc, V, q, c, rfl, O2, L2, K2, Z2, P2⟩
  have z2 := Hh.kx z1 K2 (by omega)
  have B2 : Below w.heap.size w w2 := B1.trans (K2.below (by omega) (by omega))
  have O2' : Oi (w.heap.size + 1) w2 (.slice ra n rc) n V := O2.mono (by omega)
  have HP := hide P2
  have HZ := hide Z2
  clear z0 b0 hz0 b1 B1 z1 l1 O2 P2 Z2 K2
  have b3 : Below w2.heap.size w2 (w2.alloc (.cells #[.int .i64 f, .int .i64 bi, .int .i64 ve, .string d, .string e, .string t, .string y, .slice ra n rc] 49)) := (Below.refl _ _).alloc (Nat.le_refl _) _
  have h3 := Hh.new w2 49 (.int .i64 f) (.int .i64 bi) (.int .i64 ve) (.string d) (.string e) (.string t) (.string y) (.slice ra n rc)
  have l3 := L2.below b3
  have z3 := Hh.below z2 b3
  have O3 := hide (O2'.kept b3)
  have B3 := hide (B2.trans (b3.mono B2.size))
  have hgt : w.heap.size + 1 < w2.heap.size := L2.lt
  clear z2 L2 O2' B2 b3
  go_upto_region 3 with fail
  generalize w2.alloc (.cells #[.int .i64 f, .int .i64 bi, .int .i64 ve, .string d, .string e, .string t, .string y, .slice ra n rc] 49) = W3 at *
  generalize w2.heap.size = hb at *
  have c2 := l3.c2
  have c1 := l3.c1
  have hc0 := h3.c0
  have hc1 := h3.c1
  have hc2 := h3.c2
  have hc3 := h3.c3
  have hc4 := h3.c4
  have hc5 := h3.c5
  have hc6 := h3.c6
  have hc7 := h3.c7
  have r0 := z3.c0
  have r1 := z3.c1
  have r2 := z3.c2
  have r3 := z3.c3
  have r4 := z3.c4
  have r5 := z3.c5
  have r6 := z3.c6
  have r7 := z3.c7
  have f0 := z3.fz 0
  have f1 := z3.fz 1
  have f2 := z3.fz 2
  have f3 := z3.fz 3
  have f4 := z3.fz 4
  have f5 := z3.fz 5
  have f6 := z3.fz 6
  have f7 := z3.fz 7
  have g2 := l3.fz 2
  by_cases hc : c = 0
  · subst hc
    obtain ⟨y1, y2, y3, y4, y5, y6⟩ := unhide HZ rfl
    have HG := hide (fun W (hI : Ia W ra n rc V) => specGood_ra f bi ve d e t y ra n rc V W y1 y2 y3 y4 y5 hI)
    have HI := hide ((unhide O3).ia y6)
    clear HZ y1 y2 y3 y4 y5 y6
    cases hgh : gh f bi ve d.size e.size t.size y.size n V with
    | true =>
      have hh : hdR s short = some ⟨f, bi, ve, d, e, t, y, n, V, q⟩ := by
        rcases unhide HP with ⟨_, _, h9⟩ | ⟨h9, _⟩
        · exact h9
        · exact absurd ⟨rfl, hgh⟩ h9
      have HH := hide hh
      rw [hgh] at HG
      clear hh hgh HP
      go_wp2_with fail
      refine (unhide HG _ (unhide HI)).mono ?_
      rintro e9 w4 ⟨rfl, b4⟩
      have b5 := hide ((unhide B3).trans (b4.mono (unhide B3).size))
      have O5 := hide ((unhide O3).kept b4)
      have l5 := l3.below b4
      have z5 := Hh.below z3 b4
      have h5 := Hh.below h3 b4
      clear c2 c1 hc0 hc1 hc2 hc3 hc4 hc5 hc6 hc7 r0 r1 r2 r3 r4 r5 r6 r7 f0 f1 f2 f3 f4 f5 f6 f7 g2 l3 z3 h3 B3 O3 b4 HI HG
      have k1 := l5.c1
      have k2 := l5.c2
      have j2 := l5.fz 2
      have q0 := z5.c0
      have q1 := z5.c1
      have q2 := z5.c2
      have q3 := z5.c3
      have q4 := z5.c4
      have q5 := z5.c5
      have q6 := z5.c6
      have q7 := z5.c7
      have f0 := z5.fz 0
      have f1 := z5.fz 1
      have f2 := z5.fz 2
      have f3 := z5.fz 3
      have f4 := z5.fz 4
      have f5 := z5.fz 5
      have f6 := z5.fz 6
      have f7 := z5.fz 7
      have e0 := h5.c0
      have e1 := h5.c1
      have e2 := h5.c2
      have e3 := h5.c3
      have e4 := h5.c4
      have e5 := h5.c5
      have e6 := h5.c6
      have e7 := h5.c7
      have hlz : w.heap.size < hb := by omega
      go_wp2_with fail
      go_region
      go_wp2
      refine bodyPost_ret (v := .tuple #[hv f bi ve d e t y ra n rc, .int .i64 q, .int .i64 0]) (by simp [results, Try.results27, go_sem, q0, q1, q2, q3, q4, q5, q6, q7]) rfl ?_
      rw [unhide HH]
      refine ⟨ra, rc, rfl, ?_, ?_⟩
      · refine Oi.mono (base' := w.heap.size + 1) ?_ (by omega)
        refine Oi.drew ?_
        iterate 8 refine Oi.other ?_ (by omega)
        exact unhide O5
      · refine Below.drew ?_
        iterate 8 refine Below.setCell ?_ (by simp) _
        exact unhide b5
    | false =>
      have hh : hdR s short = none := by
        rcases unhide HP with ⟨_, h9, _⟩ | ⟨_, h9⟩
        · rw [hgh] at h9; cases h9
        · exact h9
      have HH := hide hh
      rw [hgh] at HG
      clear hh hgh HP
      go_wp2_with fail
      refine (unhide HG _ (unhide HI)).mono ?_
      rintro e9 w4 ⟨rfl, b4⟩
      have b5 := hide ((unhide B3).trans (b4.mono (unhide B3).size))
      have O5 := hide ((unhide O3).kept b4)
      have l5 := l3.below b4
      have z5 := Hh.below z3 b4
      have h5 := Hh.below h3 b4
      clear c2 c1 hc0 hc1 hc2 hc3 hc4 hc5 hc6 hc7 r0 r1 r2 r3 r4 r5 r6 r7 f0 f1 f2 f3 f4 f5 f6 f7 g2 l3 z3 h3 B3 O3 b4 HI HG
      have k1 := l5.c1
      have k2 := l5.c2
      have j2 := l5.fz 2
      have q0 := z5.c0
      have q1 := z5.c1
      have q2 := z5.c2
      have q3 := z5.c3
      have q4 := z5.c4
      have q5 := z5.c5
      have q6 := z5.c6
      have q7 := z5.c7
      have f0 := z5.fz 0
      have f1 := z5.fz 1
      have f2 := z5.fz 2
      have f3 := z5.fz 3
      have f4 := z5.fz 4
      have f5 := z5.fz 5
      have f6 := z5.fz 6
      have f7 := z5.fz 7
      have e0 := h5.c0
      have e1 := h5.c1
      have e2 := h5.c2
      have e3 := h5.c3
      have e4 := h5.c4
      have e5 := h5.c5
      have e6 := h5.c6
      have e7 := h5.c7
      have hlz : w.heap.size < hb := by omega
      go_wp2_with fail
      go_region
      go_wp2
      refine bodyPost_ret (v := .tuple #[hv 0 0 0 sE sE sE sE none 0 0, .int .i64 0, .int .i64 3]) (by simp [results, Try.results27, go_sem, q0, q1, q2, q3, q4, q5, q6, q7]) rfl ?_
      rw [unhide HH]
      refine ⟨3, by decide, rfl, ?_⟩
      refine Below.drew ?_
      iterate 8 refine Below.setCell ?_ (by simp) _
      exact (unhide b5).setCell (by simp) _
  · have hh : hdR s short = none := by
      rcases unhide HP with ⟨h9, _⟩ | ⟨_, h9⟩
      · exact absurd h9 hc
      · exact h9
    have HH := hide hh
    have hcb : (c == 0) = false := by simp [hc]
    have hcn : (c != 0) = true := by simp [hc]
    have HC := hide hc
    clear hh HP HZ hc
    go_wp2_with fail
    go_region
    go_wp2
    refine bodyPost_ret (v := .tuple #[hv 0 0 0 sE sE sE sE none 0 0, .int .i64 0, .int .i64 c]) (by simp [results, Try.results27, go_sem, r0, r1, r2, r3, r4, r5, r6, r7]) rfl ?_
    rw [unhide HH]
    refine ⟨c, unhide HC, rfl, ?_⟩
    refine Below.drew ?_
    iterate 8 refine Below.setCell ?_ (by simp) _
    exact unhide B3
end Go.Proofs.Ytbabipaipbjlbaa
