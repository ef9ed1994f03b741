/-
  Contracts: a range put into ranges, as the model does it.
-/
import Derived.Test.YtccfbkpelehldaaRga
import Derived.Deep.DeepCutAuto
namespace Go.Proofs.Ytccfbkpelehldaa.Rc
open Go.ChangeShapes Go.WideShapes Go.ChangeAt Go.RowKit Go.Deep
set_option linter.unusedVariables false
set_option maxRecDepth 100000

/-- a range with another one that it touches -/
def mrg (r x : RangeD) : RangeD := ⟨if r.f0 < x.f0 then r.f0 else x.f0, if x.f1 < r.f1 then r.f1 else x.f1⟩
/-- a range put into ranges, with all that it touches -/
def putG : List RangeD → RangeD → Bool → List RangeD
  | [], x, p => cond p [] [x]
  | r :: l, x, p => if x.f1 + 1 < r.f0 then r :: putG l x p else if r.f1 < x.f0 - 1 then cond p (r :: putG l x true) (x :: r :: putG l x true) else putG l (mrg r x) p
/-- its ends are numbers as they are told -/
def bdR (r : RangeD) : Prop := (0 ≤ r.f0 ∧ r.f0 ≤ 4611686018427387903) ∧ (0 ≤ r.f1 ∧ r.f1 ≤ 4611686018427387903)
theorem bd_mrg {r x : RangeD} (h1 : bdR r) (h2 : bdR x) : bdR (mrg r x) := by
  unfold bdR mrg at *
  simp only
  refine ⟨?_, ?_⟩
  · split <;> omega
  · split <;> omega
theorem gr_bd {L : List RangeD} (h : grB L = true) : ∀ i, i < L.length → bdR (gt rangeK L i) := by
  intro i hi
  unfold grB at h
  rw [Bool.and_eq_true] at h
  have h2 := h.2
  unfold allR at h2
  rw [List.all_eq_true] at h2
  have h3 := h2 i (List.mem_range.2 hi)
  unfold okR at h3
  rw [decide_eq_true_eq] at h3
  unfold fF fT at h3
  exact ⟨⟨by omega, by omega⟩, by omega, by omega⟩
theorem put_ahead {L : List RangeD} {k : Nat} (h : k < L.length) {x : RangeD} {p : Bool} (h1 : x.f1 + 1 < (gt rangeK L k).f0) : putG (L.drop k) x p = gt rangeK L k :: putG (L.drop (k + 1)) x p := by
  rw [drop_gt rangeK L k h, putG, if_pos h1]
theorem put_behind {L : List RangeD} {k : Nat} (h : k < L.length) {x : RangeD} (h1 : ¬ x.f1 + 1 < (gt rangeK L k).f0) (h2 : (gt rangeK L k).f1 < x.f0 - 1) : putG (L.drop k) x true = gt rangeK L k :: putG (L.drop (k + 1)) x true := by
  rw [drop_gt rangeK L k h, putG, if_neg h1, if_pos h2]
  rfl
theorem put_here {L : List RangeD} {k : Nat} (h : k < L.length) {x : RangeD} (h1 : ¬ x.f1 + 1 < (gt rangeK L k).f0) (h2 : (gt rangeK L k).f1 < x.f0 - 1) : putG (L.drop k) x false = x :: gt rangeK L k :: putG (L.drop (k + 1)) x true := by
  rw [drop_gt rangeK L k h, putG, if_neg h1, if_pos h2]
  rfl
theorem put_mrg {L : List RangeD} {k : Nat} (h : k < L.length) {x : RangeD} {p : Bool} (h1 : ¬ x.f1 + 1 < (gt rangeK L k).f0) (h2 : ¬ (gt rangeK L k).f1 < x.f0 - 1) : putG (L.drop k) x p = putG (L.drop (k + 1)) (mrg (gt rangeK L k) x) p := by
  rw [drop_gt rangeK L k h, putG, if_neg h1, if_neg h2]
theorem putG_true : ∀ (L : List RangeD) (x : RangeD), (putG L x true).length ≤ L.length
  | [], x => Nat.le_refl _
  | r :: l, x => by
    rw [putG]
    split
    · have := putG_true l x; simp; omega
    · split
      · have := putG_true l x; simp; omega
      · have := putG_true l (mrg r x); simp; omega
theorem putG_len : ∀ (L : List RangeD) (x : RangeD) (p : Bool), (putG L x p).length ≤ L.length + 1
  | [], x, p => by cases p <;> simp [putG]
  | r :: l, x, p => by
    rw [putG]
    split
    · have := putG_len l x p; simp; omega
    · split
      · have := putG_true l x
        cases p <;> (simp; omega)
      · have := putG_len l (mrg r x) p; simp; omega
theorem ro_box {base : Nat} {w : World} {v : Value} {O : List RangeD} {i : Nat} {u : Value} {g : Nat} (h : Ro rangeK 53 base w v O) (hg : g < base) : Ro rangeK 53 base (w.setCell ⟨g, i, none⟩ u) v O :=
  h.kq ((Kq.refl (fun q => q = g) w).set rfl) (fun q hq => by omega)
set_option maxHeartbeats 8000000 in
theorem specPu (a : Option Addr) (cap : Nat) (L : List RangeD) (x : RangeD) (w : World) (hn : L.length ≤ 1000) (hL : ∀ i, i < L.length → bdR (gt rangeK L i)) (hx : bdR x) (h : Rd rangeK w a L) :
    Calls Try.prog 52 #[.slice a L.length cap, rangeV x] w fun e w' => ∃ v, e = .returned v ∧ Ro rangeK 53 w.heap.size w' v (putG L x false) ∧ Below w.heap.size w w' := by
  have HR := hide h
  have HL := hide hL
  have HX := hide hx
  obtain ⟨R, hR⟩ : ∃ R, putG L x false = R := ⟨_, rfl⟩
  have HRR := hide hR
  rw [hR]
  clear h hL hx hR
  have X0 := hide (Bx.new w (rangeC x) 53)
  have O0 := hide (Ro.nil rangeK 53 (w.heap.size + 1) (w.alloc (.cells (rangeC x).toArray 53)))
  have B0 := hide ((Below.refl w.heap.size w).alloc (Nat.le_refl _) (.cells (rangeC x).toArray 53))
  go_enter Try.func52, Try.ntmps52
  go_wp2_with fail
  go_loopw [5, 6, 11] (fun ov pv iv wr => ∃ (k : Nat) (O : List RangeD) (y : RangeD) (p : Bool), k ≤ L.length ∧ iv = .int .i64 k ∧ pv = .bool p ∧ O.length ≤ 2 * k ∧ Hid (bdR y) ∧ Hid (R = O ++ putG (L.drop k) y p) ∧ Hid (Ro rangeK 53 (w.heap.size + 1) wr ov O) ∧ Hid (Bx wr w.heap.size (rangeC y)) ∧ Hid (Below w.heap.size w wr)) (fun _ _ iv _ => L.length - (intOf iv).toNat)
  case atStart => exact ⟨0, [], x, false, Nat.zero_le _, rfl, rfl, Nat.le_refl _, HX, (unhide HRR).symm, unhide O0, unhide X0, unhide B0⟩
  case round =>
    obtain ⟨k, O, y, p, hk, rfl, rfl, hO, hy, hE, hv, hb, hB⟩ := hrel
    clear X0 O0 B0 HRR HX
    have hws : w.heap.size < wr.heap.size := (unhide hb).lt
    by_cases hlt : k < L.length
    · rcases (unhide HR).below (unhide hB) with h0 | ⟨b, o, rfl, _, hel⟩
      · rw [h0] at hlt; exact absurd hlt (Nat.not_lt_zero _)
      have c0 := range_r0 hel hlt
      have c1 := range_r1 hel hlt
      have hrb := unhide HL k hlt
      have hyb := unhide hy
      have P1 := fun (q : Bool) => @put_ahead L k hlt y q
      have P2 := @put_behind L k hlt y
      have P3 := @put_here L k hlt y
      have P4 := fun (q : Bool) => @put_mrg L k hlt y q
      clear hel
      generalize gt rangeK L k = r at *
      obtain ⟨r0, r1⟩ := r
      obtain ⟨y0, y1⟩ := y
      simp only at P1 P2 P3 P4
      obtain ⟨⟨a0, a1⟩, a2, a3⟩ : (0 ≤ r0 ∧ r0 ≤ 4611686018427387903) ∧ (0 ≤ r1 ∧ r1 ≤ 4611686018427387903) := hrb
      obtain ⟨⟨b0, b1⟩, b2, b3⟩ : (0 ≤ y0 ∧ y0 ≤ 4611686018427387903) ∧ (0 ≤ y1 ∧ y1 ≤ 4611686018427387903) := hyb
      obtain ⟨W, hW⟩ : ∃ W, W = wr.alloc (.cells #[.int .i64 r0, .int .i64 r1] 53) := ⟨_, rfl⟩
      have hAl : Below wr.heap.size wr W := by rw [hW]; exact (Below.refl _ _).alloc (Nat.le_refl _) _
      have RB := hide (show Bx W wr.heap.size [.int .i64 r0, .int .i64 r1] by rw [hW]; exact Bx.new wr _ _)
      have YB := hide ((unhide hb).below hAl)
      have BW := hide ((unhide hB).trans (hAl.mono (unhide hB).size))
      have OW := hide ((unhide hv).below hAl)
      have hWs : W.heap.size = wr.heap.size + 1 := by rw [hW]; simp
      have HW := hide hW
      have HWs := hide hWs
      have hlW : wr.heap.size < W.heap.size := by omega
      clear hAl hW hWs
      obtain ⟨ao, co, rfl⟩ := (unhide OW).opens
      by_cases h1 : y1 + 1 < r0
      · have HE : Hid (R = (O ++ [⟨r0, r1⟩]) ++ putG (L.drop (k + 1)) ⟨y0, y1⟩ p) := by show _ = _; rw [unhide hE, P1 p h1]; simp
        obtain ⟨v2, w2, run, o2, bel2, _⟩ := pushRange W (w.heap.size + 1) _ O ⟨r0, r1⟩ (unhide OW) (by omega) (by omega)
        have RUN := hide run
        have O2 := hide o2
        have Y2 := hide ((unhide YB).kept bel2.size (bel2.block _ (by omega)))
        have B2 := hide ((unhide BW).trans (bel2.mono (by omega)))
        have rc := (unhide RB).cv
        have yc := (unhide YB).cv
        clear run o2 bel2 P1 P2 P3 P4 hE hv hb hB OW YB RB BW HR HL
        go_upto_region 6 with fail
        rw [← unhide HW]
        clear HW
        go_wp2_with (at_builtin; refine wpl_app rfl _ _ 28 rfl _ _ _ _ rfl rfl (unhide RUN) ?_)
        exact ⟨⟨k + 1, O ++ [⟨r0, r1⟩], ⟨y0, y1⟩, p, by omega, by go_num, rfl, by simp; omega, hy, HE, O2, Y2, B2⟩, by simp [intOf]; omega⟩
      · by_cases h2 : r1 < y0 - 1
        · cases p with
          | true =>
            have HE : Hid (R = (O ++ [⟨r0, r1⟩]) ++ putG (L.drop (k + 1)) ⟨y0, y1⟩ true) := by show _ = _; rw [unhide hE, P2 h1 h2]; simp
            obtain ⟨v2, w2, run, o2, bel2, _⟩ := pushRange W (w.heap.size + 1) _ O ⟨r0, r1⟩ (unhide OW) (by omega) (by omega)
            have RUN := hide run
            have O2 := hide o2
            have Y2 := hide ((unhide YB).kept bel2.size (bel2.block _ (by omega)))
            have B2 := hide ((unhide BW).trans (bel2.mono (by omega)))
            have rc := (unhide RB).cv
            have yc := (unhide YB).cv
            clear run o2 bel2 P1 P2 P3 P4 hE hv hb hB OW YB RB BW HR HL
            go_upto_region 6 with fail
            rw [← unhide HW]
            clear HW
            go_wp2_with (at_builtin; refine wpl_app rfl _ _ 28 rfl _ _ _ _ rfl rfl (unhide RUN) ?_)
            exact ⟨⟨k + 1, O ++ [⟨r0, r1⟩], ⟨y0, y1⟩, true, by omega, by go_num, rfl, by simp; omega, hy, HE, O2, Y2, B2⟩, by simp [intOf]; omega⟩
          | false =>
            have HE : Hid (R = ((O ++ [⟨y0, y1⟩]) ++ [⟨r0, r1⟩]) ++ putG (L.drop (k + 1)) ⟨y0, y1⟩ true) := by show _ = _; rw [unhide hE, P3 h1 h2]; simp
            obtain ⟨v2, w2, run, o2, bel2, kp2⟩ := pushRange W (w.heap.size + 1) _ O ⟨y0, y1⟩ (unhide OW) (by omega) (by omega)
            have hs2 := bel2.size
            obtain ⟨a2', c2', rfl⟩ := o2.opens
            obtain ⟨v3, w3, run3, o3, bel3, _⟩ := pushRange w2 (w.heap.size + 1) _ (O ++ [⟨y0, y1⟩]) ⟨r0, r1⟩ o2 (by simp; omega) (by omega)
            rw [show (O ++ [(⟨y0, y1⟩ : RangeD)]).length = O.length + 1 by simp] at run run3
            have RUN := hide run
            have RUN3 := hide run3
            have O3 := hide o3
            have Y3 := hide (((unhide YB).kept bel2.size (bel2.block _ (by omega))).kept bel3.size (bel3.block _ (by omega)))
            have B3 := hide (((unhide BW).trans (bel2.mono (by omega))).trans (bel3.mono (by omega)))
            have rc := (unhide RB).cv
            have yc := (unhide YB).cv
            have RB2 : Hid (Bx w2 wr.heap.size [.int .i64 r0, .int .i64 r1]) := (unhide RB).kept bel2.size (kp2 _ hlW (fun g hg => by have := (World.ownsRow.lt (unhide hv) g hg).2; omega))
            have rc2 := (unhide RB2).cv
            have rl2 := (unhide RB2).lt
            clear run run3 o2 o3 bel2 bel3 kp2 P1 P2 P3 P4 hE hv hb hB OW YB RB BW HR HL RB2
            go_upto_region 6 with fail
            rw [← unhide HW]
            clear HW
            go_upto_region 11 with (at_builtin; refine wpl_app rfl _ _ 28 rfl _ _ _ _ rfl rfl (unhide RUN) ?_)
            go_wp2_with (at_builtin; refine wpl_app rfl _ _ 28 rfl _ _ _ _ rfl rfl (unhide RUN3) ?_)
            exact ⟨⟨k + 1, (O ++ [⟨y0, y1⟩]) ++ [⟨r0, r1⟩], ⟨y0, y1⟩, true, by omega, by go_num, rfl, by simp; omega, hy, HE, O3, Y3, B3⟩, by simp [intOf]; omega⟩
        · by_cases h3 : r0 < y0
          · by_cases h4 : y1 < r1
            · have em : mrg ⟨r0, r1⟩ ⟨y0, y1⟩ = ⟨r0, r1⟩ := by unfold mrg; simp only; rw [if_pos h3, if_pos h4]
              have HE : Hid (R = O ++ putG (L.drop (k + 1)) ⟨r0, r1⟩ p) := by show _ = _; rw [unhide hE, P4 p h1 h2, em]
              have hy2 : Hid (bdR ⟨r0, r1⟩) := ⟨⟨by omega, by omega⟩, by omega, by omega⟩
              have rc := (unhide RB).cv
              have yc := (unhide YB).cv
              have yf := (unhide YB).fz
              have O2 : Hid (Ro rangeK 53 (w.heap.size + 1) ((W.setCell ⟨w.heap.size, 0, none⟩ (.int .i64 r0)).setCell ⟨w.heap.size, 1, none⟩ (.int .i64 r1)) (.slice ao O.length co) O) := (ro_box (g := w.heap.size) (i := 1) (u := .int .i64 r1) (ro_box (g := w.heap.size) (i := 0) (u := .int .i64 r0) (unhide OW) (by omega)) (by omega))
              have Y2 : Hid (Bx ((W.setCell ⟨w.heap.size, 0, none⟩ (.int .i64 r0)).setCell ⟨w.heap.size, 1, none⟩ (.int .i64 r1)) w.heap.size (rangeC ⟨r0, r1⟩)) := (Bx.set (i := 1) (u := .int .i64 r1) (Bx.set (i := 0) (u := .int .i64 r0) (unhide YB) (by simp)) (by simp))
              have B2 : Hid (Below w.heap.size w ((W.setCell ⟨w.heap.size, 0, none⟩ (.int .i64 r0)).setCell ⟨w.heap.size, 1, none⟩ (.int .i64 r1))) := (Below.setCell (Below.setCell (unhide BW) (Nat.le_refl _) _) (Nat.le_refl _) _)
              clear P1 P2 P3 P4 hE hv hb hB OW YB RB BW HR HL em
              go_upto_region 6 with fail
              rw [← unhide HW]
              clear HW
              go_wp2
              exact ⟨⟨k + 1, O, ⟨r0, r1⟩, p, by omega, by go_num, rfl, by omega, hy2, HE, O2, Y2, B2⟩, by simp [intOf]; omega⟩
            · have em : mrg ⟨r0, r1⟩ ⟨y0, y1⟩ = ⟨r0, y1⟩ := by unfold mrg; simp only; rw [if_pos h3, if_neg h4]
              have HE : Hid (R = O ++ putG (L.drop (k + 1)) ⟨r0, y1⟩ p) := by show _ = _; rw [unhide hE, P4 p h1 h2, em]
              have hy2 : Hid (bdR ⟨r0, y1⟩) := ⟨⟨by omega, by omega⟩, by omega, by omega⟩
              have rc := (unhide RB).cv
              have yc := (unhide YB).cv
              have yf := (unhide YB).fz
              have O2 : Hid (Ro rangeK 53 (w.heap.size + 1) (W.setCell ⟨w.heap.size, 0, none⟩ (.int .i64 r0)) (.slice ao O.length co) O) := (ro_box (g := w.heap.size) (i := 0) (u := .int .i64 r0) (unhide OW) (by omega))
              have Y2 : Hid (Bx (W.setCell ⟨w.heap.size, 0, none⟩ (.int .i64 r0)) w.heap.size (rangeC ⟨r0, y1⟩)) := (Bx.set (i := 0) (u := .int .i64 r0) (unhide YB) (by simp))
              have B2 : Hid (Below w.heap.size w (W.setCell ⟨w.heap.size, 0, none⟩ (.int .i64 r0))) := (Below.setCell (unhide BW) (Nat.le_refl _) _)
              clear P1 P2 P3 P4 hE hv hb hB OW YB RB BW HR HL em
              go_upto_region 6 with fail
              rw [← unhide HW]
              clear HW
              go_wp2
              exact ⟨⟨k + 1, O, ⟨r0, y1⟩, p, by omega, by go_num, rfl, by omega, hy2, HE, O2, Y2, B2⟩, by simp [intOf]; omega⟩
          · by_cases h4 : y1 < r1
            · have em : mrg ⟨r0, r1⟩ ⟨y0, y1⟩ = ⟨y0, r1⟩ := by unfold mrg; simp only; rw [if_neg h3, if_pos h4]
              have HE : Hid (R = O ++ putG (L.drop (k + 1)) ⟨y0, r1⟩ p) := by show _ = _; rw [unhide hE, P4 p h1 h2, em]
              have hy2 : Hid (bdR ⟨y0, r1⟩) := ⟨⟨by omega, by omega⟩, by omega, by omega⟩
              have rc := (unhide RB).cv
              have yc := (unhide YB).cv
              have yf := (unhide YB).fz
              have O2 : Hid (Ro rangeK 53 (w.heap.size + 1) (W.setCell ⟨w.heap.size, 1, none⟩ (.int .i64 r1)) (.slice ao O.length co) O) := (ro_box (g := w.heap.size) (i := 1) (u := .int .i64 r1) (unhide OW) (by omega))
              have Y2 : Hid (Bx (W.setCell ⟨w.heap.size, 1, none⟩ (.int .i64 r1)) w.heap.size (rangeC ⟨y0, r1⟩)) := (Bx.set (i := 1) (u := .int .i64 r1) (unhide YB) (by simp))
              have B2 : Hid (Below w.heap.size w (W.setCell ⟨w.heap.size, 1, none⟩ (.int .i64 r1))) := (Below.setCell (unhide BW) (Nat.le_refl _) _)
              clear P1 P2 P3 P4 hE hv hb hB OW YB RB BW HR HL em
              go_upto_region 6 with fail
              rw [← unhide HW]
              clear HW
              go_wp2
              exact ⟨⟨k + 1, O, ⟨y0, r1⟩, p, by omega, by go_num, rfl, by omega, hy2, HE, O2, Y2, B2⟩, by simp [intOf]; omega⟩
            · have em : mrg ⟨r0, r1⟩ ⟨y0, y1⟩ = ⟨y0, y1⟩ := by unfold mrg; simp only; rw [if_neg h3, if_neg h4]
              have HE : Hid (R = O ++ putG (L.drop (k + 1)) ⟨y0, y1⟩ p) := by show _ = _; rw [unhide hE, P4 p h1 h2, em]
              have hy2 : Hid (bdR ⟨y0, y1⟩) := ⟨⟨by omega, by omega⟩, by omega, by omega⟩
              have rc := (unhide RB).cv
              have yc := (unhide YB).cv
              have yf := (unhide YB).fz
              have O2 : Hid (Ro rangeK 53 (w.heap.size + 1) W (.slice ao O.length co) O) := (unhide OW)
              have Y2 : Hid (Bx W w.heap.size (rangeC ⟨y0, y1⟩)) := (unhide YB)
              have B2 : Hid (Below w.heap.size w W) := (unhide BW)
              clear P1 P2 P3 P4 hE hv hb hB OW YB RB BW HR HL em
              go_upto_region 6 with fail
              rw [← unhide HW]
              clear HW
              go_wp2
              exact ⟨⟨k + 1, O, ⟨y0, y1⟩, p, by omega, by go_num, rfl, by omega, hy2, HE, O2, Y2, B2⟩, by simp [intOf]; omega⟩
    · have hd : L.drop k = [] := List.drop_eq_nil_of_le (by omega)
      obtain ⟨ao, co, rfl⟩ := (unhide hv).opens
      cases p with
      | true =>
        have HE : Hid (R = O) := by show _ = _; rw [unhide hE, hd]; simp [putG]
        clear hE HR HL hd
        go_wp2
        go_ret
        exact ⟨_, rfl, by rw [unhide HE]; exact (unhide hv).mono (by omega), unhide hB⟩
      | false =>
        have HE : Hid (R = O ++ [y]) := by show _ = _; rw [unhide hE, hd]; simp [putG]
        obtain ⟨v2, w2, run, o2, bel2, _⟩ := pushRange wr (w.heap.size + 1) _ O y (unhide hv) (by omega) (by omega)
        have RUN := hide run
        have O2 := hide o2
        have B2 := hide ((unhide hB).trans (bel2.mono (by omega)))
        have yc := (unhide hb).cv
        clear hE HR HL hd run o2 bel2
        go_wp2_with (at_builtin; refine wpl_app rfl _ _ 28 rfl _ _ _ _ rfl rfl (unhide RUN) ?_)
        go_ret
        exact ⟨_, rfl, by rw [unhide HE]; exact (unhide O2).mono (by omega), unhide B2⟩
end Go.Proofs.Ytccfbkpelehldaa.Rc
