/-
  The law FnPieces, walked.
-/
import Derived.Test.YtagnkelpdgpigaaOpd
import Derived.Test.YtagnkelpdgpigaaSmf
import Derived.Test.YtagnkelpdgpigaaNxi
import Derived.Test.YtagnkelpdgpigaaNxs
import Derived.Test.YtagnkelpdgpigaaGf8
import Derived.Deep.DeepCutAuto
namespace Go.Proofs.Ytagnkelpdgpigaa.fnPieces
open Go.ChangeShapes Go.WideShapes Go.ChangeAt Go.RowKit Go.Deep Rc
set_option linter.unusedVariables false
set_option maxRecDepth 100000

/-- how the pieces stand: what the next one is from p on -/
def Pst (f0 : Int) (f2 : ByteArray) (f3 : Bool) (m p : Nat) (r : Bool) (O : OutflowD) (kd fb : Int) (fin : Bool) (tx : ByteArray) : Prop :=
  nxB ⟨f0, (p : Int), f2, f3⟩ (m : Int) = r ∧ nxO ⟨f0, (p : Int), f2, f3⟩ (m : Int) (nxB ⟨f0, (p : Int), f2, f3⟩ (m : Int)) = O ∧ nxR ⟨f0, (p : Int), f2, f3⟩ (m : Int) (nxB ⟨f0, (p : Int), f2, f3⟩ (m : Int)) = frV kd fb fin tx
theorem pst_mk (f0 : Int) (f2 : ByteArray) (f3 : Bool) (m p : Nat) : ∃ O kd fb fin tx, Pst f0 f2 f3 m p (nxB ⟨f0, (p : Int), f2, f3⟩ (m : Int)) O kd fb fin tx := by
  cases h : nxB ⟨f0, (p : Int), f2, f3⟩ (m : Int) with
  | false => exact ⟨_, 0, 0, false, ⟨#[]⟩, h, rfl, by rw [h]; rfl⟩
  | true => exact ⟨_, 8, _, _, _, h, rfl, by rw [h]; rfl⟩
theorem frV_inj {k b k' b' : Int} {fin fin' : Bool} {s s' : ByteArray} (h : frV k b fin s = frV k' b' fin' s') : k = k' ∧ b = b' ∧ fin = fin' ∧ s = s' := by
  simpa using h
theorem pst_no {f0 : Int} {f2 : ByteArray} {f3 : Bool} {m p : Nat} {O : OutflowD} {kd fb : Int} {fin : Bool} {tx : ByteArray} (h : Pst f0 f2 f3 m p false O kd fb fin tx) : kd = 0 := by
  obtain ⟨h1, h2, h3⟩ := h
  rw [h1] at h3
  exact (frV_inj (k := 0) (b := 0) (fin := false) (s := ⟨#[]⟩) h3).1.symm
theorem pst_yes {f0 : Int} {f2 : ByteArray} {f3 : Bool} {m p : Nat} {O : OutflowD} {kd fb : Int} {fin : Bool} {tx : ByteArray} (h : Pst f0 f2 f3 m p true O kd fb fin tx) :
    ∃ e : Nat, kd = 8 ∧ fb = (p : Int) ∧ fin = (f3 && decide (e = f2.size)) ∧ tx = f2.extract p e ∧ O = ⟨f0, (e : Int), f2, f3⟩ ∧ p ≤ e ∧ (e : Int) ≤ f0 ∧ e ≤ f2.size ∧ goB ⟨f0, (e : Int), f2, f3⟩ = true ∧ f0 ≤ 4611686018427387903 := by
  obtain ⟨h1, h2, h3⟩ := h
  rw [h1] at h2 h3
  have hA : nxA ⟨f0, (p : Int), f2, f3⟩ (m : Int) = true := by
    unfold nxB at h1
    rw [Bool.and_eq_true] at h1
    exact h1.1
  unfold nxA at hA
  simp only [Bool.and_eq_true, decide_eq_true_eq] at hA
  have g := goB_iff.1 hA.1
  have hE := nxE_in g hA.2.1
  obtain ⟨g0, g1, g2, g3, g4, g5⟩ := g
  dsimp only at g0 g1 g2 g3 g4 g5 hE
  obtain ⟨e, he⟩ : ∃ e : Nat, nxE ⟨f0, (p : Int), f2, f3⟩ (m : Int) = (e : Int) := ⟨(nxE ⟨f0, (p : Int), f2, f3⟩ (m : Int)).toNat, by omega⟩
  rw [he] at hE
  obtain ⟨q0, q1, q2, q3⟩ := frV_inj (k := 8) (b := (p : Int)) (fin := nxF ⟨f0, (p : Int), f2, f3⟩ (m : Int)) (s := nxT ⟨f0, (p : Int), f2, f3⟩ (m : Int)) h3
  refine ⟨e, q0.symm, q1.symm, ?_, ?_, ?_, by omega, by omega, by omega, ?_, g1⟩
  · rw [← q2]
    unfold nxF
    rw [he]
    dsimp only
    congr 1
    simp
    omega
  · rw [← q3]
    unfold nxT
    rw [he]
    rfl
  · rw [← h2]
    unfold nxO
    rw [he]
    rfl
  · exact goB_iff.2 ⟨g0, g1, g2, by show (0 : Int) ≤ (e : Int); omega, by show (e : Int) ≤ (f2.size : Int); omega, by show (e : Int) ≤ f0; omega⟩
theorem ext_cat (t : ByteArray) {a b c : Nat} (h1 : a ≤ b) (h2 : b ≤ c) (h3 : c ≤ t.size) : t.extract a b ++ t.extract b c = t.extract a c := by
  rw [ByteArray.extract_append_extract, Nat.min_eq_left (by omega), Nat.max_eq_right (by omega)]
set_option maxHeartbeats 16000000 in
theorem walk_small (a0 : Option Addr) (n0 c0 : Nat) (w : World) (h : n0 ≤ 1048576) (hC0 : Cd w a0 n0) :
    Calls Try.prog 3 #[.slice a0 n0 c0] w fun e w' => e = .returned (.bool true) ∧ Below w.heap.size w w' := by
  have g0 : ¬ (1048576 : Int) < (n0 : Int) := by omega
  have HC0 := hide (drawNP_any a0 n0 c0 w h hC0)
  clear hC0
  go_enter Try.func3, Try.ntmps3
  go_wp2_with fail
  refine (unhide HC0).mono ?_
  rintro e w1 ⟨D, m, rfl, hD, hD1, hm, b1⟩
  clear HC0
  obtain ⟨f0, f1, f2, f3⟩ := D
  dsimp only at hD hD1
  obtain ⟨p0, rfl⟩ := Int.eq_ofNat_of_zero_le hD1
  obtain ⟨V, hV⟩ : ∃ V, V = w1.alloc (.cells #[.int .i64 f0, .int .i64 (p0 : Int), .string f2, .bool f3] 24) := ⟨_, rfl⟩
  have B1 : Hid (Below w.heap.size w V) := by show Below _ _ _; rw [hV]; exact b1.alloc b1.size _
  have X1 : Hid (Bx V w1.heap.size (outflowC ⟨f0, (p0 : Int), f2, f3⟩)) := by show Bx _ _ _; rw [hV]; exact Bx.new w1 _ _
  have HV := hide hV
  have hws := b1.size
  have HI := hide (fun (p : Nat) W => implNP ⟨f0, (p : Int), f2, f3⟩ (m : Int) (by show f2.size ≤ _; omega) W)
  have HS := hide (fun W => specNP ⟨f0, (p0 : Int), f2, f3⟩ (m : Int) (by show f2.size ≤ _; omega) W)
  obtain ⟨s, hs⟩ : ∃ s, w1.heap.size = s := ⟨_, rfl⟩
  rw [hs] at X1
  have HSS := hide hs
  have hws2 : w.heap.size ≤ s := by omega
  clear b1 hV hs hD1
  go_upto_region 4 with fail
  rw [← unhide HV, unhide HSS]
  clear HV HSS hws
  have x1 := (unhide X1).cv
  have x1l := (unhide X1).lt
  go_wp2_with fail
  refine (unhide HI p0 _).mono ?_
  rintro e w2 ⟨rfl, b2⟩
  have B2 := hide ((unhide B1).trans (b2.mono (unhide B1).size))
  have X2 := hide ((unhide X1).below b2)
  clear b2 B1 X1 x1 x1l
  obtain ⟨O, kd, fb, fin, tx, hP⟩ := pst_mk f0 f2 f3 m p0
  rw [hP.2.1, hP.2.2]
  rw [hP.2.1, hP.2.2] at HS
  have HP := hide hP
  clear hP
  obtain ⟨r, hr⟩ : ∃ r, nxB ⟨f0, (p0 : Int), f2, f3⟩ (m : Int) = r := ⟨_, rfl⟩
  rw [hr] at HP HS
  rw [hr]
  clear hr
  obtain ⟨o0, o1, o2, o3⟩ := O
  have x1 := (unhide X2).cv
  have x1l := (unhide X2).lt
  obtain ⟨V3, hV3⟩ : ∃ V, V = ((w2.alloc (.cells #[.int .i64 o0, .int .i64 o1, .string o2, .bool o3] 24)).alloc (.cells #[.int .i64 kd, .int .i64 0, .int .i64 fb, .int .i64 0, .bool fin, .string tx, .slice none 0 0] 29)) := ⟨_, rfl⟩
  have B3 : Hid (Below w.heap.size w V3) := by show Below _ _ _; rw [hV3]; exact ((unhide B2).alloc (unhide B2).size _).alloc (by have := (unhide B2).size; simp; omega) _
  have S3 : Hid (Bx V3 s (outflowC ⟨f0, (p0 : Int), f2, f3⟩)) := by show Bx _ _ _; rw [hV3]; exact ((unhide X2).alloc _).alloc _
  have X3 : Hid (Bx V3 w2.heap.size (outflowC ⟨o0, o1, o2, o3⟩)) := by show Bx _ _ _; rw [hV3]; exact (Bx.new w2 _ _).alloc _
  have Q3 : Hid (Bx V3 (w2.heap.size + 1) (frC kd fb fin tx)) := by
    show Bx _ _ _
    rw [hV3]
    have h9 := Bx.new (w2.alloc (.cells #[.int .i64 o0, .int .i64 o1, .string o2, .bool o3] 24)) (frC kd fb fin tx) 29
    rw [World.size_alloc] at h9
    exact h9
  have HV3 := hide hV3
  clear hV3
  go_upto_region 5 with fail
  rw [← unhide HV3]
  clear HV3 x1 x1l
  have hsx := (unhide X2).lt
  obtain ⟨x, hx⟩ : ∃ x, w2.heap.size = x := ⟨_, rfl⟩
  rw [hx] at X3 Q3 hsx ⊢
  clear hx X2 B2
  obtain ⟨q, hq⟩ : ∃ q, q = x + 1 := ⟨_, rfl⟩
  rw [← hq] at Q3 ⊢
  have hxq : x < q := by omega
  clear hq
  have x1 := (unhide S3).cv
  have x1l := (unhide S3).lt
  go_wp2_with fail
  refine (unhide HS _).mono ?_
  rintro e w4 ⟨rfl, b4⟩
  have B4 := hide ((unhide B3).trans (b4.mono (unhide B3).size))
  have S4 := hide ((unhide S3).below b4)
  have X4 := hide ((unhide X3).below b4)
  have Q4 := hide ((unhide Q3).below b4)
  clear b4 B3 S3 X3 Q3 x1 x1l HS
  obtain ⟨V5, hV5⟩ : ∃ V, V = ((w4.alloc (.cells #[.int .i64 o0, .int .i64 o1, .string o2, .bool o3] 24)).alloc (.cells #[.int .i64 kd, .int .i64 0, .int .i64 fb, .int .i64 0, .bool fin, .string tx, .slice none 0 0] 29)) := ⟨_, rfl⟩
  have B5 : Hid (Below w.heap.size w V5) := by show Below _ _ _; rw [hV5]; exact ((unhide B4).alloc (unhide B4).size _).alloc (by have := (unhide B4).size; simp; omega) _
  have S5 : Hid (Bx V5 s (outflowC ⟨f0, (p0 : Int), f2, f3⟩)) := by show Bx _ _ _; rw [hV5]; exact ((unhide S4).alloc _).alloc _
  have X5 : Hid (Bx V5 x (outflowC ⟨o0, o1, o2, o3⟩)) := by show Bx _ _ _; rw [hV5]; exact ((unhide X4).alloc _).alloc _
  have Q5 : Hid (Bx V5 q (frC kd fb fin tx)) := by show Bx _ _ _; rw [hV5]; exact ((unhide Q4).alloc _).alloc _
  have Z5 : Hid (Bx V5 (w4.heap.size + 1) (frC kd fb fin tx)) := by
    show Bx _ _ _
    rw [hV5]
    have h9 := Bx.new (w4.alloc (.cells #[.int .i64 o0, .int .i64 o1, .string o2, .bool o3] 24)) (frC kd fb fin tx) 29
    rw [World.size_alloc] at h9
    exact h9
  have HV5 := hide hV5
  clear hV5
  go_upto_region 6 with fail
  rw [← unhide HV5]
  clear HV5 B4 S4 X4 Q4
  have q0 := (unhide Q5).cv
  have ql := (unhide Q5).lt
  have z0 := (unhide Z5).cv
  have zl := (unhide Z5).lt
  go_wp2_with fail
  refine (sameF0 kd fb fin tx _).mono ?_
  rintro e w6 ⟨rfl, b6⟩
  have B6 := hide ((unhide B5).trans (b6.mono (unhide B5).size))
  have S6 := hide ((unhide S5).below b6)
  have X6 := hide ((unhide X5).below b6)
  have Q6 := hide ((unhide Q5).below b6)
  clear b6 B5 S5 X5 Q5 Z5 q0 ql z0 zl
  cases r with
  | false =>
    have hk0 := pst_no (unhide HP)
    have q0 := (unhide Q6).cv
    have ql := (unhide Q6).lt
    go_wp2
    go_ret
    exact ⟨rfl, unhide B6⟩
  | true =>
    have hps : p0 ≤ f2.size := by
      obtain ⟨e, _, _, _, _, _, h1, _, h2, _⟩ := pst_yes (unhide HP)
      omega
    have s0 := (unhide S6).cv
    have sl := (unhide S6).lt
    have E0 : f2.extract p0 p0 = ⟨#[]⟩ := by
      apply ByteArray.ext
      simp
    go_wp2_with fail
    clear s0 sl
    go_loopw [7, 11, 12, 13] (fun okv atv allv kv wr => ∃ (k p : Nat) (r : Bool) (O : OutflowD) (kd fb : Int) (fin : Bool) (tx : ByteArray), k ≤ 100 ∧ kv = .int .i64 k ∧ atv = .int .i64 (p : Int) ∧ okv = .bool r ∧ allv = .string (f2.extract p0 p) ∧ p0 ≤ p ∧ p ≤ f2.size ∧ Hid (Pst f0 f2 f3 m p r O kd fb fin tx) ∧ Hid (Bx wr x (outflowC O)) ∧ Hid (Bx wr q (frC kd fb fin tx)) ∧ Hid (Bx wr s (outflowC ⟨f0, (p0 : Int), f2, f3⟩)) ∧ Hid (Below w.heap.size w wr)) (fun _ _ _ kv _ => 100 - (intOf kv).toNat)
    case atStart => exact ⟨0, p0, true, ⟨o0, o1, o2, o3⟩, kd, fb, fin, tx, by omega, rfl, rfl, rfl, by rw [E0], Nat.le_refl _, hps, HP, X6, Q6, S6, B6⟩
    case round =>
      obtain ⟨k, p, r, O, kd, fb, fin, tx, hk, rfl, rfl, rfl, rfl, hp0, hp1, HPS, HX9, HQ9, HS9, HB⟩ := hrel
      clear E0 HP X6 Q6 S6 B6 hps
      by_cases hk9 : k = 100
      · have hk9' : ¬ (k : Int) < 100 := by omega
        clear HX9 HQ9 HI HPS
        have y0 := (unhide HS9).cv
        have yl := (unhide HS9).lt
        have j0 : (0 : Int) ≤ (p0 : Int) := by omega
        have j1 : (p0 : Int) ≤ (p : Int) := by omega
        have j2 : (p : Int) ≤ (f2.size : Int) := by omega
        have j3 : ((p : Int)).toNat = p := Int.toNat_natCast _
        have j4 : ((p0 : Int)).toNat = p0 := Int.toNat_natCast _
        go_wp2
        go_ret
        exact ⟨rfl, unhide HB⟩
      have hk9' : (k : Int) < 100 := by omega
      cases r with
      | false =>
        clear HX9 HQ9 HI HPS
        have y0 := (unhide HS9).cv
        have yl := (unhide HS9).lt
        have j0 : (0 : Int) ≤ (p0 : Int) := by omega
        have j1 : (p0 : Int) ≤ (p : Int) := by omega
        have j2 : (p : Int) ≤ (f2.size : Int) := by omega
        have j3 : ((p : Int)).toNat = p := Int.toNat_natCast _
        have j4 : ((p0 : Int)).toNat = p0 := Int.toNat_natCast _
        go_wp2
        go_ret
        exact ⟨rfl, unhide HB⟩
      | true =>
        obtain ⟨e, rfl, rfl, hfin, htx, rfl, he0, he1, he2, hgo, hmx⟩ := pst_yes (unhide HPS)
        have htz : tx.size = e - p := by rw [htx, ByteArray.size_extract]; omega
        have HC := hide (ext_cat f2 hp0 he0 he2)
        rw [← htx] at HC
        have hst : (f2.extract p0 p).size + tx.size ≤ 1048576 := by rw [ByteArray.size_extract]; omega
        have HGF := hide (fun W => goodF8 (p : Int) fin tx W (by omega) (by omega) (by omega))
        have HGO := hide (fun W => implGO ⟨f0, (e : Int), f2, f3⟩ (by show f2.size ≤ _; omega) W)
        rw [hgo] at HGO
        have wa : IntKind.i64.wrap ((p : Int) + (tx.size : Int)) = (e : Int) := by rw [wraps_i64 _ (by omega) (by omega)]; omega
        have hlm : ¬ f0 < (e : Int) := by omega
        clear hgo htx hmx HPS htz
        generalize f2.extract p0 p = al at *
        cases f3 with
        | false =>
          obtain rfl : fin = false := by rw [hfin]; rfl
          clear hfin
          have x0 := (unhide HX9).cv
          have xl := (unhide HX9).lt
          have q0 := (unhide HQ9).cv
          have ql := (unhide HQ9).lt
          have y0 := (unhide HS9).cv
          have yl := (unhide HS9).lt
          go_wp2_with fail
          refine (unhide HGF _).mono ?_
          rintro e8 wg ⟨rfl, bg⟩
          have XH := hide ((unhide HX9).below bg)
          have QH := hide ((unhide HQ9).below bg)
          have SH := hide ((unhide HS9).below bg)
          have BH := hide ((unhide HB).trans (bg.mono (unhide HB).size))
          clear bg HX9 HQ9 HS9 HB x0 xl q0 ql y0 yl HGF
          have x0 := (unhide XH).cv
          have xl := (unhide XH).lt
          have q0 := (unhide QH).cv
          have ql := (unhide QH).lt
          have y0 := (unhide SH).cv
          have yl := (unhide SH).lt
          go_wp2_with fail
          refine (unhide HGO _).mono ?_
          rintro e8 wh ⟨rfl, bh⟩
          have XG := hide ((unhide XH).below bh)
          have QG := hide ((unhide QH).below bh)
          have SG := hide ((unhide SH).below bh)
          have BG := hide ((unhide BH).trans (bh.mono (unhide BH).size))
          clear bh XH QH SH BH x0 xl q0 ql y0 yl HGO
          have x0 := (unhide XG).cv
          have xl := (unhide XG).lt
          have q0 := (unhide QG).cv
          have ql := (unhide QG).lt
          have y0 := (unhide SG).cv
          have yl := (unhide SG).lt
          go_upto_region 18 with fail
          rw [unhide HC]
          clear HC hst
          go_upto_region 19 with fail
          clear wa
          clear x0 xl y0 yl
          have x0 := (unhide XG).cv
          have xl := (unhide XG).lt
          go_wp2_with fail
          refine (unhide HI e _).mono ?_
          rintro e9 wn ⟨rfl, bn⟩
          clear x0 xl q0 ql
          obtain ⟨O', kd', fb', fin', tx', hP⟩ := pst_mk f0 f2 false m e
          rw [hP.2.1, hP.2.2]
          have HPN := hide hP
          clear hP
          generalize nxB ⟨f0, (e : Int), f2, false⟩ (m : Int) = r' at *
          obtain ⟨o0, o1, o2, o3⟩ := O'
          have XN := hide ((unhide XG).below bn)
          have QN := hide ((unhide QG).below bn)
          have SN := hide ((unhide SG).below bn)
          have BN := hide ((unhide BG).trans (bn.mono (unhide BG).size))
          have F4 := st4f (unhide XN) (.int .i64 o0) (.int .i64 o1) (.string o2) (.bool o3)
          have Q4 := (unhide QN).kept F4.2.size (F4.2.block q (unhide QN).lt (by show q ≠ x; omega))
          have S4 := (unhide SN).kept F4.2.size (F4.2.block s (unhide SN).lt (by show s ≠ x; omega))
          have F7 := st7f Q4 (.int .i64 kd') (.int .i64 0) (.int .i64 fb') (.int .i64 0) (.bool fin') (.string tx') (.slice none 0 0)
          have FX := hide (F4.1.kept F7.2.size (F7.2.block x F4.1.lt (by show x ≠ q; omega)))
          have FS := hide (S4.kept F7.2.size (F7.2.block s S4.lt (by show s ≠ q; omega)))
          have FQ := hide F7.1
          have FB := hide (((((((((((((unhide BN).setCell (show w.heap.size ≤ x by omega) (.int .i64 o0) (p := ⟨x, 0, none⟩)).setCell (show w.heap.size ≤ x by omega) (.int .i64 o1) (p := ⟨x, 1, none⟩)).setCell (show w.heap.size ≤ x by omega) (.string o2) (p := ⟨x, 2, none⟩)).setCell (show w.heap.size ≤ x by omega) (.bool o3) (p := ⟨x, 3, none⟩)).setCell (show w.heap.size ≤ q by omega) (.int .i64 kd') (p := ⟨q, 0, none⟩)).setCell (show w.heap.size ≤ q by omega) (.int .i64 0) (p := ⟨q, 1, none⟩)).setCell (show w.heap.size ≤ q by omega) (.int .i64 fb') (p := ⟨q, 2, none⟩)).setCell (show w.heap.size ≤ q by omega) (.int .i64 0) (p := ⟨q, 3, none⟩)).setCell (show w.heap.size ≤ q by omega) (.bool fin') (p := ⟨q, 4, none⟩)).setCell (show w.heap.size ≤ q by omega) (.string tx') (p := ⟨q, 5, none⟩)).setCell (show w.heap.size ≤ q by omega) (.slice none 0 0) (p := ⟨q, 6, none⟩)))
          have x0 := (unhide XN).cv
          have xl := (unhide XN).lt
          have xf := (unhide XN).fz
          have q0 := (unhide QN).cv
          have ql := (unhide QN).lt
          have qf := (unhide QN).fz
          clear bn F4 Q4 S4 F7 XN QN SN BN XG QG SG BG
          go_wp2
          exact ⟨⟨k + 1, e, r', ⟨o0, o1, o2, o3⟩, kd', fb', fin', tx', by omega, by go_num, rfl, rfl, rfl, by omega, by omega, HPN, FX, FQ, FS, FB⟩, by simp [intOf]; omega⟩
        | true =>
          by_cases hes : e = f2.size
          · obtain rfl : fin = true := by rw [hfin, hes]; simp
            have hes' : ((e : Int) == (f2.size : Int)) = true := by rw [hes]; simp
            clear hfin hes
            have x0 := (unhide HX9).cv
            have xl := (unhide HX9).lt
            have q0 := (unhide HQ9).cv
            have ql := (unhide HQ9).lt
            have y0 := (unhide HS9).cv
            have yl := (unhide HS9).lt
            go_wp2_with fail
            refine (unhide HGF _).mono ?_
            rintro e8 wg ⟨rfl, bg⟩
            have XH := hide ((unhide HX9).below bg)
            have QH := hide ((unhide HQ9).below bg)
            have SH := hide ((unhide HS9).below bg)
            have BH := hide ((unhide HB).trans (bg.mono (unhide HB).size))
            clear bg HX9 HQ9 HS9 HB x0 xl q0 ql y0 yl HGF
            have x0 := (unhide XH).cv
            have xl := (unhide XH).lt
            have q0 := (unhide QH).cv
            have ql := (unhide QH).lt
            have y0 := (unhide SH).cv
            have yl := (unhide SH).lt
            go_wp2_with fail
            refine (unhide HGO _).mono ?_
            rintro e8 wh ⟨rfl, bh⟩
            have XG := hide ((unhide XH).below bh)
            have QG := hide ((unhide QH).below bh)
            have SG := hide ((unhide SH).below bh)
            have BG := hide ((unhide BH).trans (bh.mono (unhide BH).size))
            clear bh XH QH SH BH x0 xl q0 ql y0 yl HGO
            have x0 := (unhide XG).cv
            have xl := (unhide XG).lt
            have q0 := (unhide QG).cv
            have ql := (unhide QG).lt
            have y0 := (unhide SG).cv
            have yl := (unhide SG).lt
            go_upto_region 18 with fail
            rw [unhide HC]
            clear HC hst
            go_upto_region 19 with fail
            clear wa
            clear x0 xl y0 yl
            have y0 := (unhide SG).cv
            have yl := (unhide SG).lt
            have j0 : (0 : Int) ≤ (p0 : Int) := by omega
            have j1 : (p0 : Int) ≤ (e : Int) := by omega
            have j2 : (e : Int) ≤ (f2.size : Int) := by omega
            have j3 : ((e : Int)).toNat = e := Int.toNat_natCast _
            have j4 : ((p0 : Int)).toNat = p0 := Int.toNat_natCast _
            go_wp2
            go_ret
            exact ⟨rfl, unhide BG⟩
          · obtain rfl : fin = false := by rw [hfin]; simp [hes]
            have hes' : ((e : Int) == (f2.size : Int)) = false := beq_eq_false_iff_ne.2 (by omega)
            clear hfin hes
            have x0 := (unhide HX9).cv
            have xl := (unhide HX9).lt
            have q0 := (unhide HQ9).cv
            have ql := (unhide HQ9).lt
            have y0 := (unhide HS9).cv
            have yl := (unhide HS9).lt
            go_wp2_with fail
            refine (unhide HGF _).mono ?_
            rintro e8 wg ⟨rfl, bg⟩
            have XH := hide ((unhide HX9).below bg)
            have QH := hide ((unhide HQ9).below bg)
            have SH := hide ((unhide HS9).below bg)
            have BH := hide ((unhide HB).trans (bg.mono (unhide HB).size))
            clear bg HX9 HQ9 HS9 HB x0 xl q0 ql y0 yl HGF
            have x0 := (unhide XH).cv
            have xl := (unhide XH).lt
            have q0 := (unhide QH).cv
            have ql := (unhide QH).lt
            have y0 := (unhide SH).cv
            have yl := (unhide SH).lt
            go_wp2_with fail
            refine (unhide HGO _).mono ?_
            rintro e8 wh ⟨rfl, bh⟩
            have XG := hide ((unhide XH).below bh)
            have QG := hide ((unhide QH).below bh)
            have SG := hide ((unhide SH).below bh)
            have BG := hide ((unhide BH).trans (bh.mono (unhide BH).size))
            clear bh XH QH SH BH x0 xl q0 ql y0 yl HGO
            have x0 := (unhide XG).cv
            have xl := (unhide XG).lt
            have q0 := (unhide QG).cv
            have ql := (unhide QG).lt
            have y0 := (unhide SG).cv
            have yl := (unhide SG).lt
            go_upto_region 18 with fail
            rw [unhide HC]
            clear HC hst
            go_upto_region 19 with fail
            clear wa
            clear x0 xl y0 yl
            have x0 := (unhide XG).cv
            have xl := (unhide XG).lt
            go_wp2_with fail
            refine (unhide HI e _).mono ?_
            rintro e9 wn ⟨rfl, bn⟩
            clear x0 xl q0 ql
            obtain ⟨O', kd', fb', fin', tx', hP⟩ := pst_mk f0 f2 true m e
            rw [hP.2.1, hP.2.2]
            have HPN := hide hP
            clear hP
            generalize nxB ⟨f0, (e : Int), f2, true⟩ (m : Int) = r' at *
            obtain ⟨o0, o1, o2, o3⟩ := O'
            have XN := hide ((unhide XG).below bn)
            have QN := hide ((unhide QG).below bn)
            have SN := hide ((unhide SG).below bn)
            have BN := hide ((unhide BG).trans (bn.mono (unhide BG).size))
            have F4 := st4f (unhide XN) (.int .i64 o0) (.int .i64 o1) (.string o2) (.bool o3)
            have Q4 := (unhide QN).kept F4.2.size (F4.2.block q (unhide QN).lt (by show q ≠ x; omega))
            have S4 := (unhide SN).kept F4.2.size (F4.2.block s (unhide SN).lt (by show s ≠ x; omega))
            have F7 := st7f Q4 (.int .i64 kd') (.int .i64 0) (.int .i64 fb') (.int .i64 0) (.bool fin') (.string tx') (.slice none 0 0)
            have FX := hide (F4.1.kept F7.2.size (F7.2.block x F4.1.lt (by show x ≠ q; omega)))
            have FS := hide (S4.kept F7.2.size (F7.2.block s S4.lt (by show s ≠ q; omega)))
            have FQ := hide F7.1
            have FB := hide (((((((((((((unhide BN).setCell (show w.heap.size ≤ x by omega) (.int .i64 o0) (p := ⟨x, 0, none⟩)).setCell (show w.heap.size ≤ x by omega) (.int .i64 o1) (p := ⟨x, 1, none⟩)).setCell (show w.heap.size ≤ x by omega) (.string o2) (p := ⟨x, 2, none⟩)).setCell (show w.heap.size ≤ x by omega) (.bool o3) (p := ⟨x, 3, none⟩)).setCell (show w.heap.size ≤ q by omega) (.int .i64 kd') (p := ⟨q, 0, none⟩)).setCell (show w.heap.size ≤ q by omega) (.int .i64 0) (p := ⟨q, 1, none⟩)).setCell (show w.heap.size ≤ q by omega) (.int .i64 fb') (p := ⟨q, 2, none⟩)).setCell (show w.heap.size ≤ q by omega) (.int .i64 0) (p := ⟨q, 3, none⟩)).setCell (show w.heap.size ≤ q by omega) (.bool fin') (p := ⟨q, 4, none⟩)).setCell (show w.heap.size ≤ q by omega) (.string tx') (p := ⟨q, 5, none⟩)).setCell (show w.heap.size ≤ q by omega) (.slice none 0 0) (p := ⟨q, 6, none⟩)))
            have x0 := (unhide XN).cv
            have xl := (unhide XN).lt
            have xf := (unhide XN).fz
            have q0 := (unhide QN).cv
            have ql := (unhide QN).lt
            have qf := (unhide QN).fz
            clear bn F4 Q4 S4 F7 XN QN SN BN XG QG SG BG
            go_wp2
            exact ⟨⟨k + 1, e, r', ⟨o0, o1, o2, o3⟩, kd', fb', fin', tx', by omega, by go_num, rfl, rfl, rfl, by omega, by omega, HPN, FX, FQ, FS, FB⟩, by simp [intOf]; omega⟩
theorem walk (a0 : Option Addr) (n0 c0 : Nat) (w : World) (hN0 : n0 ≤ 140737488355328) (hC0 : Cd w a0 n0) :
    Calls Try.prog 3 #[.slice a0 n0 c0] w fun e w' => e = .returned (.bool true) ∧ Below w.heap.size w w' := by
  by_cases h : (1048576 : Int) < (n0 : Int)
  · clear hC0
    go_enter Try.func3, Try.ntmps3
    go_wp2
    go_ret
    exact ⟨rfl, Below.refl _ _⟩
  · exact walk_small a0 n0 c0 w (by omega) hC0
end Go.Proofs.Ytagnkelpdgpigaa.fnPieces
