/-
  Contracts: a piece put to pieces, of the model.
-/
import Derived.Test.YtmicpknilhiliaaStc
import Derived.Deep.DeepCutAuto
namespace Go.Proofs.Ytmicpknilhiliaa.Rc
open Go.ChangeShapes Go.WideShapes Go.ChangeAt Go.RowKit Go.Deep
set_option linter.unusedVariables false
set_option maxRecDepth 100000

/-- pieces that lie low -/
def lowP (p : PieceD) : Prop := 0 ≤ p.f0 ∧ pE p ≤ 1000000
theorem low_mg {p x : PieceD} (hp : lowP p) (hx : lowP x) (h : x.f0 ≤ pE p) (h' : p.f0 ≤ pE x) : lowP (mgS p x) := by
  obtain ⟨m1, m2, _⟩ := mgS_in h h'
  unfold lowP at *
  omega
theorem can_drop : ∀ {P : List PieceD} {lo : Int} {k : Nat}, Can lo P → ∃ lo', Can lo' (P.drop k)
  | P, lo, 0, h => ⟨lo, h⟩
  | [], lo, k + 1, _ => ⟨lo, trivial⟩
  | p :: P, lo, k + 1, h => can_drop (P := P) h.2.2
theorem can_after {P : List PieceD} {lo : Int} {k : Nat} (h : Can lo P) (hk : k < P.length) : ∀ q ∈ P.drop (k + 1), pE (gt pieceK P k) < q.f0 := by
  obtain ⟨lo', h'⟩ := can_drop (k := k) h
  rw [dropP hk] at h'
  intro q hq
  have : ∀ {Q : List PieceD} {l : Int}, Can l Q → ∀ q ∈ Q, l ≤ q.f0 := by
    intro Q
    induction Q with
    | nil => exact fun _ q hq => by cases hq
    | cons r Q ih =>
      intro l hc q hq
      rcases List.mem_cons.1 hq with rfl | hq
      · exact hc.1
      · have h1 := ih hc.2.2 q hq
        have h2 := hc.1
        have h3 := hc.2.1
        unfold pE at h1
        omega
  have := this h'.2.2 q hq
  omega
set_option maxHeartbeats 16000000 in
theorem specPt (P : List PieceD) (x : PieceD) (lo : Int) (hc : Can lo P) (hl : ∀ p ∈ P, lowP p) (hx : lowP x) (hn : P.length ≤ 1000) (W : World) (a : Option Addr) (c : Nat) (h : Rd pieceK W a P) :
    Calls Try.prog 32 #[.slice a P.length c, pieceV x] W fun e w' => ∃ v, e = .returned v ∧ Ro pieceK 53 (W.heap.size + 1) w' v (putS P x) ∧ Below W.heap.size W w' := by
  obtain ⟨V0, hV0⟩ : ∃ V, V = W.alloc (.cells (pieceC x).toArray 53) := ⟨_, rfl⟩
  have B0 := hide (show Below W.heap.size W V0 by rw [hV0]; exact (Below.refl W.heap.size W).alloc (Nat.le_refl _) _)
  have X0 := hide (show Bx V0 W.heap.size (pieceC x) by rw [hV0]; exact Bx.new W _ _)
  have O0 := hide (Ro.nil pieceK 53 (W.heap.size + 1) V0)
  have HR := hide (fun V (b : Below W.heap.size W V) => h.below b)
  have HV0 := hide hV0
  have HC := hide hc
  have HL := hide hl
  obtain ⟨R, hR⟩ : ∃ R, R = putS P x := ⟨_, rfl⟩
  rw [← hR]
  have HP0 : Hid (R = [] ++ putS (P.drop 0) x) := hR
  clear hV0 h hc hl hR
  go_enter Try.func32, Try.ntmps32
  go_upto_region 1 with fail
  rw [← unhide HV0]
  clear HV0
  go_wp2_with fail
  go_loopw [5, 6, 13] (fun v5 v6 iv wr => ∃ (k : Nat) (Q : List PieceD) (put : Bool) (x : PieceD), k ≤ P.length ∧ (Q.length ≤ k + 1 ∧ (put = false → Q.length ≤ k)) ∧ v6 = .bool put ∧ iv = .int .i64 k ∧ lowP x ∧ Hid ((put = false → R = Q ++ putS (P.drop k) x) ∧ (put = true → R = Q ++ P.drop k ∧ ∀ q ∈ P.drop k, pE x < q.f0)) ∧ Hid (Ro pieceK 53 (W.heap.size + 1) wr v5 Q) ∧ Hid (Bx wr W.heap.size (pieceC x)) ∧ Hid (Below W.heap.size W wr)) (fun _ _ iv _ => P.length - (intOf iv).toNat)
  case atStart => exact ⟨0, [], false, x, Nat.zero_le _, ⟨Nat.zero_le _, fun _ => Nat.zero_le _⟩, rfl, rfl, hx, hide ⟨fun _ => unhide HP0, fun h => by cases h⟩, O0, X0, B0⟩
  case round =>
    obtain ⟨k, Q, put, x, hk, ⟨hQ, hQ0⟩, rfl, rfl, hx, hP, hO, hX, hB⟩ := hrel
    clear HP0 O0 X0 B0
    have sz0 := (unhide hX).lt
    by_cases hlt : k < P.length
    · rcases unhide HR wr (unhide hB) with h9 | ⟨b, oo, rfl, _, hel⟩
      · rw [h9] at hlt; exact absurd hlt (Nat.not_lt_zero _)
      have c0 := piece_r0 hel hlt
      have c1 := piece_r1 hel hlt
      have hlp := unhide HL _ (gt_mem pieceK P k hlt)
      have hmp := gt_mem pieceK P k hlt
      have hdr := hide (dropP hlt)
      have haf := hide (can_after (unhide HC) hlt)
      have hin : Hid (gt pieceK P k ∈ P.drop k) := by show _ ∈ _; rw [unhide hdr]; exact List.mem_cons_self
      generalize gt pieceK P k = p at *
      obtain ⟨W1, hW1⟩ : ∃ V, V = wr.alloc (.cells #[.int .i64 p.f0, .string p.f1] 53) := ⟨_, rfl⟩
      have al1 : Below wr.heap.size wr W1 := by rw [hW1]; exact (Below.refl _ _).alloc (Nat.le_refl _) _
      have Y1 := hide (show Bx W1 wr.heap.size (pieceC p) by rw [hW1]; exact Bx.new wr _ _)
      have X1 := hide ((unhide hX).below al1)
      have O1 := hide ((unhide hO).below al1)
      have OB : Hid (∀ g, u5.ownBlock = some g → W.heap.size + 1 ≤ g ∧ g < wr.heap.size) := fun g e => World.ownsRow.lt (w := wr) (unhide hO) g e
      have B1 := hide ((unhide hB).trans (al1.mono (unhide hB).size))
      have HW1 := hide hW1
      have hnk : (k : Int) < (P.length : Int) := by omega
      have hk0 : (0 : Int) ≤ (k : Int) := by omega
      obtain ⟨pb, hpb⟩ : ∃ q, q = wr.heap.size := ⟨_, rfl⟩
      have hpb0 : W.heap.size < pb := by omega
      have sz1 : pb < W1.heap.size := by rw [hpb]; exact (unhide Y1).lt
      have OB' : Hid (∀ g, u5.ownBlock = some g → W.heap.size + 1 ≤ g ∧ g < pb) := by show ∀ g, _; intro g e; have := unhide OB g e; omega
      rw [← hpb] at Y1
      obtain ⟨lp0, lp1⟩ := hlp
      obtain ⟨lx0, lx1⟩ := hx
      have ep : pE p = p.f0 + p.f1.size := rfl
      have ex : pE x = x.f0 + x.f1.size := rfl
      have zp : Hid (p.f1.size ≤ 1000000) := by show _ ≤ _; omega
      clear al1 hW1 hel hX hO hB OB
      go_upto_region 6 with fail
      rw [← unhide HW1, ← hpb]
      clear HW1 c0 c1 hpb
      have y1 := (unhide Y1).cv
      have y1l := (unhide Y1).lt
      have x1 := (unhide X1).cv
      have x1l := (unhide X1).lt
      have w1 : IntKind.i64.wrap (p.f0 + (p.f1.size : Int)) = p.f0 + (p.f1.size : Int) := by rw [IntKind.wrap_i64]; omega
      have w2 : IntKind.i64.wrap (x.f0 + (x.f1.size : Int)) = x.f0 + (x.f1.size : Int) := by rw [IntKind.wrap_i64]; omega
      have sW := (unhide B1).size
      by_cases hA : p.f0 + (p.f1.size : Int) < x.f0
      · cases put with
        | true => exact absurd ((unhide hP).2 rfl).2 (fun h => by have := h p (unhide hin); omega)
        | false =>
          obtain ⟨v5, w5, run, o5, b5, h5⟩ := pushPiece W1 (W.heap.size + 1) u5 Q p (unhide O1) (by omega) (by omega)
          have RUN := hide run
          have GO := hide o5
          have GX := hide ((unhide X1).kept b5.size (h5 _ (by omega) (fun g e => by have := unhide OB' g e; omega)))
          have GB := hide ((unhide B1).trans (b5.mono (Nat.le_succ _)))
          have GP : Hid ((false = false → R = (Q ++ [p]) ++ putS (P.drop (k + 1)) x) ∧ (false = true → R = (Q ++ [p]) ++ P.drop (k + 1) ∧ ∀ q ∈ P.drop (k + 1), pE x < q.f0)) := ⟨fun _ => by rw [(unhide hP).1 rfl, unhide hdr]; show Q ++ putS (p :: P.drop (k + 1)) x = _; rw [putS, if_pos (by omega), List.append_assoc]; rfl, fun h => by cases h⟩
          clear run o5 b5 h5 hP hdr haf hin X1 O1 B1 Y1 OB' w2
          go_wp2_with (at_builtin; refine wpl_app rfl _ _ 37 rfl _ _ _ _ rfl rfl (unhide RUN) ?_)
          exact ⟨⟨k + 1, Q ++ [p], false, x, by omega, ⟨by simp; omega, fun _ => by have := hQ0 rfl; simp; omega⟩, rfl, by go_num, ⟨lx0, lx1⟩, GP, GO, GX, GB⟩, by simp [intOf]; omega⟩
      · by_cases hB : x.f0 + (x.f1.size : Int) < p.f0
        · cases put with
          | true =>
            obtain ⟨v5, w5, run, o5, b5, h5⟩ := pushPiece W1 (W.heap.size + 1) u5 Q p (unhide O1) (by omega) (by omega)
            have RUN := hide run
            have GO := hide o5
            have GX := hide ((unhide X1).kept b5.size (h5 _ (by omega) (fun g e => by have := unhide OB' g e; omega)))
            have GB := hide ((unhide B1).trans (b5.mono (Nat.le_succ _)))
            have GP : Hid ((true = false → R = (Q ++ [p]) ++ putS (P.drop (k + 1)) x) ∧ (true = true → R = (Q ++ [p]) ++ P.drop (k + 1) ∧ ∀ q ∈ P.drop (k + 1), pE x < q.f0)) := ⟨fun h => (by cases h), fun _ => ⟨by rw [((unhide hP).2 rfl).1, unhide hdr, List.append_assoc]; rfl, fun q hq => ((unhide hP).2 rfl).2 q (by rw [unhide hdr]; exact List.mem_cons_of_mem _ hq)⟩⟩
            clear run o5 b5 h5 hP hdr haf hin X1 O1 B1 Y1 OB'
            go_wp2_with (at_builtin; refine wpl_app rfl _ _ 37 rfl _ _ _ _ rfl rfl (unhide RUN) ?_)
            exact ⟨⟨k + 1, Q ++ [p], true, x, by omega, ⟨by simp; omega, fun h => by cases h⟩, rfl, by go_num, ⟨lx0, lx1⟩, GP, GO, GX, GB⟩, by simp [intOf]; omega⟩
          | false =>
            obtain ⟨v5, w5, run, o5, b5, h5⟩ := pushPiece W1 (W.heap.size + 1) u5 Q x (unhide O1) (by omega) (by omega)
            have hb5 := World.ownsRow.lt (w := w5) o5
            have X5 := (unhide X1).kept b5.size (h5 _ (by omega) (fun g e => by have := unhide OB' g e; omega))
            have Y5 := (unhide Y1).kept b5.size (h5 _ (by omega) (fun g e => by have := unhide OB' g e; omega))
            obtain ⟨v6, w6, run6, o6, b6, h6⟩ := pushPiece w5 (W.heap.size + 1) v5 (Q ++ [x]) p o5 (by simp; omega) (by have := b5.size; omega)
            have RUN := hide run
            have RUN6 := hide run6
            have GO := hide o6
            have GX := hide (X5.kept b6.size (h6 _ X5.lt (fun g e => by have := (hb5 g e).1; omega)))
            have GB := hide (((unhide B1).trans (b5.mono (Nat.le_succ _))).trans (b6.mono (Nat.le_succ _)))
            have GP : Hid ((true = false → R = (Q ++ [x] ++ [p]) ++ putS (P.drop (k + 1)) x) ∧ (true = true → R = (Q ++ [x] ++ [p]) ++ P.drop (k + 1) ∧ ∀ q ∈ P.drop (k + 1), pE x < q.f0)) := ⟨fun h => (by cases h), fun _ => ⟨by rw [(unhide hP).1 rfl, unhide hdr]; show Q ++ putS (p :: P.drop (k + 1)) x = _; rw [putS, if_neg (by omega), if_pos (by omega)]; simp, fun q hq => by have := unhide haf q hq; omega⟩⟩
            have z5 := Y5.cv
            have z5l := Y5.lt
            clear run run6 o5 b5 h5 o6 b6 h6 hP hdr haf hin X1 O1 B1 Y1 OB' X5 Y5 hb5
            go_upto_region 12 with (at_builtin; refine wpl_app rfl _ _ 37 rfl _ _ _ _ rfl rfl (unhide RUN) ?_)
            clear y1 y1l x1 x1l
            go_wp2_with (at_builtin; refine wpl_app rfl _ _ 37 rfl _ _ _ _ rfl rfl (unhide RUN6) ?_)
            exact ⟨⟨k + 1, Q ++ [x] ++ [p], true, x, by omega, ⟨by have := hQ0 rfl; simp; omega, fun h => by cases h⟩, rfl, by go_num, ⟨lx0, lx1⟩, GP, GO, GX, GB⟩, by simp [intOf]; omega⟩
        · cases put with
          | true => exact absurd ((unhide hP).2 rfl).2 (fun h => by have := h p (unhide hin); omega)
          | false =>
            have GP : Hid ((false = false → R = Q ++ putS (P.drop (k + 1)) (mgS p x)) ∧ (false = true → R = Q ++ P.drop (k + 1) ∧ ∀ q ∈ P.drop (k + 1), pE (mgS p x) < q.f0)) := ⟨fun _ => by rw [(unhide hP).1 rfl, unhide hdr]; show Q ++ putS (p :: P.drop (k + 1)) x = _; rw [putS, if_neg (by omega), if_neg (by omega)], fun h => by cases h⟩
            have GL := hide (low_mg (p := p) (x := x) ⟨lp0, lp1⟩ ⟨lx0, lx1⟩ (by omega) (by omega))
            clear hP hdr haf hin
            have cz : Hid (p.f1.size ≤ 1000000 ∧ x.f1.size ≤ 1000000) := by show _ ∧ _; omega
            have MI := hide (mgL_in (p := p) (x := x) (by omega))
            have MS : Hid (mgS p x = if (mgL p x).f0 + (mgL p x).f1.size - p.f0 < p.f1.size then ⟨(mgL p x).f0, (mgL p x).f1 ++ p.f1.extract ((mgL p x).f0 + (mgL p x).f1.size - p.f0).toNat p.f1.size⟩ else mgL p x) := rfl
            generalize mgS p x = z at *
            go_upto_if 54 with fail
            go_cut [] (fun wx => Hid (Kq (fun q => q = W.heap.size) W1 wx) ∧ Hid (Bx wx W.heap.size (pieceC (mgL p x))))
            case first =>
              by_cases hl : p.f0 < x.f0
              · have e0 : mgL p x = ⟨p.f0, p.f1.extract 0 (x.f0 - p.f0).toNat ++ x.f1⟩ := by unfold mgL; rw [if_pos hl]
                obtain ⟨n, hn9⟩ : ∃ n : Nat, x.f0 - p.f0 = n := ⟨(x.f0 - p.f0).toNat, by omega⟩
                have hnp : (n : Int) ≤ (p.f1.size : Int) := by omega
                have hn0 : (0 : Int) ≤ (n : Int) := by omega
                have hw9 : IntKind.i64.wrap (x.f0 - p.f0) = (n : Int) := by rw [IntKind.wrap_i64]; omega
                have hnn : ((n : Int)).toNat = n := rfl
                rw [show (x.f0 - p.f0).toNat = n by omega] at e0
                have ad := fun U : World => run_string_add_sum (P := Try.prog) (w := U) (p.f1.extract 0 n) x.f1 (by rw [ByteArray.size_extract]; have := (unhide cz).1; have := (unhide cz).2; omega)
                obtain ⟨t9, ht9⟩ : ∃ t9, t9 = p.f1.extract 0 n ++ x.f1 := ⟨_, rfl⟩
                rw [← ht9] at ad e0
                have E0 := hide e0
                have x1f := (unhide X1).fz
                have X2 := hide (((unhide X1).set (i := 1) (u := .string t9) (by simp)).set (i := 0) (u := .int .i64 p.f0) (by simp))
                clear hn9 ht9 e0 MS MI GP GL
                go_upto_region 15 with fail
                go_region_law (fail)
                all_goals
                  go_wp2
                  go_meet
                  exact ⟨hide (((((Kq.refl (fun q => q = W.heap.size) W1).set rfl).set rfl).trans (Kq.of (Below.refl _ _).drew))), by show Bx _ _ _; rw [unhide E0]; exact (unhide X2).drew⟩
              · have e0 : mgL p x = x := by unfold mgL; rw [if_neg hl]
                have E0 : Hid (Bx W1 W.heap.size (pieceC (mgL p x))) := by show Bx _ _ _; rw [e0]; exact unhide X1
                clear e0
                go_wp2
                go_meet
                exact ⟨hide (Kq.refl _ _), E0⟩
            case rest =>
            obtain ⟨KQ, X2⟩ := hcut
            obtain ⟨V2, hV2⟩ : ∃ V, V = wc := ⟨_, rfl⟩
            rw [← hV2] at KQ X2 ⊢
            clear hV2 x1 x1l y1 y1l
            have O2 := hide ((unhide O1).kq (unhide KQ) (fun q hq => by omega))
            have Y2 := hide ((unhide Y1).kept (unhide KQ).size ((unhide KQ).block _ (unhide Y1).lt (by omega)))
            have B2 := hide ((unhide B1).trans ((unhide KQ).below (base := W.heap.size) sW (fun q hq => by omega)))
            have sV := (unhide KQ).size
            have mi0 : 0 ≤ (mgL p x).f0 := by have := (unhide MI).1; omega
            have mi2 : (mgL p x).f0 ≤ p.f0 := by have := (unhide MI).1; omega
            have mi1 : (mgL p x).f0 + ((mgL p x).f1.size : Int) = pE x := (unhide MI).2.1
            have mz : ((mgL p x).f1.size : Int) ≤ 1000000 := by omega
            rw [mi1] at MS
            clear MI X1 O1 Y1 B1 KQ
            generalize mgL p x = y at *
            have x2 := (unhide X2).cv
            have x2l := (unhide X2).lt
            have y2 := (unhide Y2).cv
            have y2l := (unhide Y2).lt
            have MI1 := hide mi1
            obtain ⟨q9, hq9⟩ : ∃ q9 : Nat, pE x - p.f0 = q9 := ⟨(pE x - p.f0).toNat, by omega⟩
            have u1 : IntKind.i64.wrap (y.f0 + (y.f1.size : Int)) = y.f0 + (y.f1.size : Int) := by rw [IntKind.wrap_i64]; omega
            have u2 : IntKind.i64.wrap (y.f0 + (y.f1.size : Int) - p.f0) = (q9 : Int) := by rw [mi1, hq9, IntKind.wrap_i64]; omega
            rw [hq9] at MS
            clear mi1 hq9 w1 w2
            by_cases hs : q9 < p.f1.size
            · have hs' : (q9 : Int) < (p.f1.size : Int) := by omega
              rw [if_pos hs'] at MS
              have hs0 : (0 : Int) ≤ (q9 : Int) := by omega
              have hs1 : (q9 : Int) ≤ (p.f1.size : Int) := by omega
              have hnn : ((q9 : Int)).toNat = q9 := rfl
              have hp0 : (0 : Int) ≤ (p.f1.size : Int) := by omega
              have ad := fun U : World => run_string_add_sum (P := Try.prog) (w := U) y.f1 (p.f1.extract q9 p.f1.size) (by rw [ByteArray.size_extract]; have := (unhide cz).1; omega)
              rw [hnn] at MS
              obtain ⟨t9, ht9⟩ : ∃ t9, t9 = y.f1 ++ p.f1.extract q9 p.f1.size := ⟨_, rfl⟩
              rw [← ht9] at ad MS
              have x2f := (unhide X2).fz
              have X3 : Hid (Bx (V2.setCell ⟨W.heap.size, 1, none⟩ (.string t9)) W.heap.size (pieceC z)) := by show Bx _ _ _; rw [unhide MS]; exact (unhide X2).set (i := 1) (u := .string t9) (by simp)
              have k3 : Kq (fun q => q = W.heap.size) V2 (V2.setCell ⟨W.heap.size, 1, none⟩ (.string t9)) := (Kq.refl _ _).set rfl
              have GX := hide (unhide X3).drew
              have GO := hide (((unhide O2).kq k3 (fun q hq => by omega)).below (Below.refl _ _).drew)
              have GB := hide (((unhide B2).trans (k3.below (base := W.heap.size) (by omega) (fun q hq => by omega))).drew)
              clear ht9 X3 k3 MS X2 O2 B2 Y2 hs
              go_upto_region 19 with fail
              go_region_law (fail)
              all_goals
                go_wp2
                exact ⟨⟨k + 1, Q, false, z, by omega, ⟨by omega, fun _ => by have := hQ0 rfl; omega⟩, rfl, by go_num, unhide GL, GP, GO, GX, GB⟩, by simp [intOf]; omega⟩
            · have hs' : ¬ (q9 : Int) < (p.f1.size : Int) := by omega
              rw [if_neg hs'] at MS
              have X3 : Hid (Bx V2 W.heap.size (pieceC z)) := by show Bx _ _ _; rw [unhide MS]; exact unhide X2
              clear MS X2 Y2 hs
              go_wp2
              exact ⟨⟨k + 1, Q, false, z, by omega, ⟨by omega, fun _ => by have := hQ0 rfl; omega⟩, rfl, by go_num, unhide GL, GP, O2, X3, B2⟩, by simp [intOf]; omega⟩
    · obtain rfl : k = P.length := by omega
      cases put with
      | true =>
        have hR := ((unhide hP).2 rfl).1
        rw [List.drop_length, List.append_nil] at hR
        have HRR := hide hR
        clear hP hR
        go_wp2
        go_ret
        exact ⟨_, rfl, by rw [unhide HRR]; exact unhide hO, unhide hB⟩
      | false =>
        have hR := (unhide hP).1 rfl
        rw [List.drop_length] at hR
        have HRR := hide hR
        have x1 := (unhide hX).cv
        have x1l := (unhide hX).lt
        have sB := (unhide hB).size
        obtain ⟨v5, w5, run, o5, b5, h5⟩ := pushPiece wr (W.heap.size + 1) u5 Q x (unhide hO) (by omega) (by omega)
        have RUN := hide run
        have GO := hide o5
        have GB := hide ((unhide hB).trans (b5.mono (Nat.le_succ _)))
        clear hP hR run o5 b5 h5 hO hX hB
        go_wp2_with (at_builtin; refine wpl_app rfl _ _ 37 rfl _ _ _ _ rfl rfl (unhide RUN) ?_)
        go_ret
        exact ⟨_, rfl, by rw [unhide HRR]; exact unhide GO, unhide GB⟩
end Go.Proofs.Ytmicpknilhiliaa.Rc
