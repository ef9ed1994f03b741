/-
  Contracts: a piece that is taken, of the model.
-/
import Derived.Test.YtmicpknilhiliaaStu
namespace Go.Proofs.Ytmicpknilhiliaa.Rc
open Go.ChangeShapes Go.WideShapes Go.ChangeAt Go.RowKit Go.Deep
set_option linter.unusedVariables false
set_option maxRecDepth 100000

theorem kn14 (n : Int) (w : World) : Calls Try.prog 28 #[.int .i64 n] w fun e w' => e = .returned (.bool (decide (0 ≤ n) && decide (n ≤ 4611686018427387903))) ∧ w' = w := by
  have H := hide (inB n 0 4611686018427387903)
  go_enter Try.func28, Try.ntmps28
  go_wp2_with fail
  refine (unhide H _).mono ?_
  rintro e w1 ⟨rfl, h9⟩
  rw [h9]
  clear h9 w1
  go_wp2
  go_ret
  exact ⟨rfl, rfl⟩
theorem can_lo : ∀ {Q : List PieceD} {l : Int}, Can l Q → ∀ q ∈ Q, l ≤ q.f0
  | [], _, _, q, hq => by cases hq
  | r :: Q, l, hc, q, hq => by
    rcases List.mem_cons.1 hq with rfl | hq
    · exact hc.1
    · have h1 := can_lo hc.2.2 q hq
      have h2 := hc.1
      have h3 := hc.2.1
      unfold pE at h1
      omega
/-- what came, and a code, are answered -/
def TPQ (E : InflowD) (co : Int) (W : World) (e : Ending) (w' : World) : Prop :=
  ∃ (a' : Option Addr) (c' : Nat), e = .returned (.tuple #[inflowV E a' c', .int .i64 co]) ∧ Ro pieceK 53 (W.heap.size + 2) w' (.slice a' E.P.length c') E.P ∧ Below W.heap.size W w'
set_option maxHeartbeats 32000000 in
theorem specTP (D : InflowD) (a : Option Addr) (c : Nat) (at' : Int) (d : ByteArray) (fin : Bool) (W : World) (ok : okF D) (hd : d.size ≤ 1099511627776) (h : Rd pieceK W a D.P) :
    Calls Try.prog 20 #[inflowV D a c, .int .i64 at', .string d, .bool fin] W (TPQ (tkD D at' d fin (tkC D at' d fin)) (tkC D at' d fin) W) := by
  obtain ⟨V0, hV0⟩ : ∃ V, V = (W.alloc (.cells (inflowC D a c).toArray 39)).alloc (.cells #[.int .i64 0, .int .i64 0, .int .i64 0, .slice none 0 0] 39) := ⟨_, rfl⟩
  have B0 := hide (show Below W.heap.size W V0 by rw [hV0]; exact ((Below.refl W.heap.size W).alloc (Nat.le_refl _) _).alloc (by simp) _)
  have A0 := hide (show Bx V0 W.heap.size (inflowC D a c) by rw [hV0]; exact (Bx.new W _ _).alloc _)
  have Z0 := hide (show Bx V0 (W.heap.size + 1) [.int .i64 0, .int .i64 0, .int .i64 0, .slice none 0 0] by rw [hV0]; exact Bx.newAt (W.alloc _) _ _ _ (by simp))
  have HV0 := hide hV0
  have R0 := hide (h.below (unhide B0))
  have HG := hide (specGI D a c V0 ok (unhide R0))
  have HK := hide (kn14 at')
  have HA : Hid (tkA D at' d = (giB D && ((decide (0 ≤ at') && decide (at' ≤ 4611686018427387903)) && decide (d.size ≤ 1500)))) := rfl
  obtain ⟨co, hco⟩ : ∃ co, tkC D at' d fin = co := ⟨_, rfl⟩
  have HC := hide hco
  rw [hco]
  have ONE : Hid (tkA D at' d = false → ∀ V, Below W.heap.size W V → TPQ (tkD D at' d fin co) co W (.returned (.tuple #[.agg #[.int .i64 0, .int .i64 0, .int .i64 0, .slice none 0 0], .int .i64 1])) V) := fun hA V b => by
    have e1 : co = 1 := by rw [← unhide HC]; unfold tkC; rw [if_neg (by rw [hA]; exact Bool.false_ne_true)]
    rw [e1]
    exact ⟨none, 0, rfl, Ro.nil _ _ _ _, b⟩
  have GD : Hid (giB D = true → GoodI D) := fun h => giB_iff.1 h
  have AN : Hid ((decide (0 ≤ at') && decide (at' ≤ 4611686018427387903)) = true → 0 ≤ at' ∧ at' ≤ 4611686018427387903) := fun h => by simpa using h
  obtain ⟨_, _, _, okp, okn⟩ := ok
  have OKP := hide okp
  clear hV0 h hco okp
  have a0 := (unhide A0).cv
  have a0l := (unhide A0).lt
  generalize giB D = r0 at *
  generalize (decide (0 ≤ at') && decide (at' ≤ 4611686018427387903)) = r1 at *
  cases r0 with
  | false =>
    have hA : tkA D at' d = false := by rw [unhide HA]; rfl
    have FIN := hide (unhide ONE hA)
    clear hA HA HC ONE GD AN OKP R0
    go_enter Try.func20, Try.ntmps20
    go_upto_region 1 with fail
    rw [← unhide HV0]
    clear HV0
    go_wp2_with fail
    refine (unhide HG).mono ?_
    rintro e w1 ⟨rfl, b1⟩
    have Z1 := (unhide Z0).below b1
    have B1 := hide ((unhide B0).trans (b1.mono (unhide B0).size))
    have z1 := Z1.cv
    have z1f := Z1.fz
    have z1l := Z1.lt
    clear b1 HG A0 Z0 B0 Z1 a0 a0l
    go_wp2_with (go_at_call 28; (with_reducible refine (unhide HK _).mono ?_); rintro e w9 ⟨rfl, h9⟩; rw [h9]; clear h9 w9)
    refine bodyPost_ret (v := .tuple #[.agg #[.int .i64 0, .int .i64 0, .int .i64 0, .slice none 0 0], .int .i64 1]) (by simp [results, Try.results20, go_sem, z1]) rfl (unhide FIN _ ?_)
    repeat (refine Below.setCell ?_ (by simp <;> omega) _)
    exact unhide B1
  | true =>
  cases r1 with
  | false =>
    have hA : tkA D at' d = false := by rw [unhide HA]; rfl
    have FIN := hide (unhide ONE hA)
    clear hA HA HC ONE GD AN OKP R0
    go_enter Try.func20, Try.ntmps20
    go_upto_region 1 with fail
    rw [← unhide HV0]
    clear HV0
    go_wp2_with fail
    refine (unhide HG).mono ?_
    rintro e w1 ⟨rfl, b1⟩
    have Z1 := (unhide Z0).below b1
    have B1 := hide ((unhide B0).trans (b1.mono (unhide B0).size))
    have z1 := Z1.cv
    have z1f := Z1.fz
    have z1l := Z1.lt
    clear b1 HG A0 Z0 B0 Z1 a0 a0l
    go_wp2_with (go_at_call 28; (with_reducible refine (unhide HK _).mono ?_); rintro e w9 ⟨rfl, h9⟩; rw [h9]; clear h9 w9)
    refine bodyPost_ret (v := .tuple #[.agg #[.int .i64 0, .int .i64 0, .int .i64 0, .slice none 0 0], .int .i64 1]) (by simp [results, Try.results20, go_sem, z1]) rfl (unhide FIN _ ?_)
    repeat (refine Below.setCell ?_ (by simp <;> omega) _)
    exact unhide B1
  | true =>
  by_cases h15 : d.size ≤ 1500
  · have t15 : decide ((1500 : Int) < (d.size : Int)) = false := decide_eq_false (by omega)
    have hA : tkA D at' d = true := by rw [unhide HA]; simp [h15]
    obtain ⟨at0, at1⟩ := unhide AN rfl
    have GI := hide (unhide GD rfl)
    have HC2 : Hid ((if D.li < at' + d.size then 2 else if fnB D (at' + d.size) fin = true then 3 else if clB D.P at' d = true then 4 else if 40 < (tkP D at' d).length then 5 else 0) = co) := by show _ = _; rw [← unhide HC]; unfold tkC; rw [if_pos hA]
    clear HA ONE GD AN HC hA
    go_enter Try.func20, Try.ntmps20
    go_upto_region 1 with fail
    rw [← unhide HV0]
    clear HV0
    go_wp2_with fail
    refine (unhide HG).mono ?_
    rintro e w1 ⟨rfl, b1⟩
    have A1 := hide ((unhide A0).below b1)
    have Z1 := hide ((unhide Z0).below b1)
    have R1 := hide ((unhide R0).below b1)
    have B1 := hide ((unhide B0).trans (b1.mono (unhide B0).size))
    have a1 := (unhide A1).cv
    have a1l := (unhide A1).lt
    have s0 := (unhide Z1).lt
    clear b1 HG A0 Z0 B0 R0 a0 a0l
    go_upto_region 3 with (go_at_call 28; (with_reducible refine (unhide HK _).mono ?_); rintro e w9 ⟨rfl, h9⟩; rw [h9]; clear h9 w9)
    clear HK
    go_wp2_with fail
    refine (specOw D a c _ okn (unhide R1)).mono ?_
    rintro e w2 ⟨a2, c2, rfl, o2, b2⟩
    obtain ⟨V3, hV3⟩ : ∃ V, V = (((w2.setCell ⟨W.heap.size, 0, none⟩ (.int .i64 D.li)).setCell ⟨W.heap.size, 1, none⟩ (.int .i64 D.re)).setCell ⟨W.heap.size, 2, none⟩ (.int .i64 D.fi)).setCell ⟨W.heap.size, 3, none⟩ (.slice a2 D.P.length c2) := ⟨_, rfl⟩
    have k3 : Kq (fun q => q = W.heap.size) w2 V3 := by rw [hV3]; exact (((((Kq.refl (fun q => q = W.heap.size) w2).set rfl).set rfl).set rfl).set rfl)
    have A2 := (unhide A1).below b2
    have a2x := A2.cv
    have a2f := A2.fz
    have a2l := A2.lt
    have A3 := hide (show Bx V3 W.heap.size (inflowC D a2 c2) by rw [hV3]; exact (((A2.set (i := 0) (by simp)).set (i := 1) (by simp)).set (i := 2) (by simp)).set (i := 3) (by simp))
    have Z2 := (unhide Z1).below b2
    have Z3 := hide (Z2.kept k3.size (k3.block _ Z2.lt (by omega)))
    have sB1 := (unhide B1).size
    have O3 := hide (Ro.mono (base' := W.heap.size + 2) (o2.kq k3 (fun q hq => by omega)) (by omega))
    have B3 := hide (((unhide B1).trans (b2.mono sB1)).trans (k3.below (base := W.heap.size) (by have := b2.size; omega) (fun q hq => by omega)))
    have HV3 := hide hV3
    clear hV3 k3 A2 Z2 o2 b2 A1 Z1 R1 B1 a1 a1l
    go_upto_region 4 with fail
    rw [← unhide HV3]
    clear HV3 a2x a2f a2l
    have a3 := (unhide A3).cv
    have a3l := (unhide A3).lt
    have z3 := (unhide Z3).cv
    have z3f := (unhide Z3).fz
    have z3l := (unhide Z3).lt
    have s3 := (unhide B3).size
    obtain ⟨e9, he9⟩ : ∃ e9 : Int, at' + (d.size : Int) = e9 := ⟨_, rfl⟩
    have we : IntKind.i64.wrap (at' + (d.size : Int)) = e9 := by rw [IntKind.wrap_i64]; omega
    have e0 : 0 ≤ e9 := by omega
    have TKD : Hid (tkD D at' d fin 0 = ⟨D.li, D.re, if fin = true then e9 else D.fi, tkP D at' d⟩) := by show _ = _; rw [← he9]; rfl
    have TKP : Hid (tkP D at' d = if D.re < e9 ∧ (tkX D.re at' d).f1.size ≠ 0 then putS D.P (tkX D.re at' d) else D.P) := by show _ = _; rw [← he9]; rfl
    rw [he9] at HC2
    have HE9 := hide he9
    clear he9
    have SAME : Hid (∀ co', co = co' → co' ≠ 0 → co' ≠ 1 → ∀ V, Kq (fun q => q = W.heap.size + 1) V3 V → TPQ (tkD D at' d fin co) co W (.returned (.tuple #[.agg #[.int .i64 D.li, .int .i64 D.re, .int .i64 D.fi, .slice a2 D.P.length c2], .int .i64 co'])) V) := fun co' e n0 n1 V k => by
      subst e
      refine ⟨a2, c2, ?_, ?_, (unhide B3).trans (k.below (base := W.heap.size) s3 (fun q hq => by omega))⟩
      · unfold tkD; rw [if_neg n1, if_neg n0]
      · unfold tkD; rw [if_neg n1, if_neg n0]; exact (unhide O3).kq k (fun q hq => by omega)
    by_cases h2 : D.li < e9
    · have hc : co = 2 := by rw [← unhide HC2, if_pos h2]
      have FIN := hide (fun V k => unhide SAME 2 (hc) (by decide) (by decide) V (k))
      clear hc SAME HC2 TKD TKP GI OKP A3 Z3 O3 B3
      go_wp2
      refine bodyPost_ret (v := .tuple #[.agg #[.int .i64 D.li, .int .i64 D.re, .int .i64 D.fi, .slice a2 D.P.length c2], .int .i64 2]) (by simp [results, Try.results20, go_sem, z3]) rfl (unhide FIN _ ?_)
      repeat (refine Kq.set ?_ rfl)
      exact Kq.refl _ _
    · rw [if_neg h2] at HC2
      have h2' : ¬ D.li < e9 := h2
      go_upto_region 7 with fail
      have LE := hide (fun U (b : Below V3.heap.size V3 U) => specLE D a2 c2 U (unhide OKP) okn ((unhide O3).rix.1.rd.below b))
      go_cut [65] (fun s65 wx => s65 = .bool (fnB D e9 fin) ∧ Hid (Below V3.heap.size V3 wx))
      case first =>
        have FB : Hid (fnB D e9 fin = ((fin && ((!decide (D.fi = -1) && !decide (D.fi = e9)) || decide (e9 < lE D.re D.P))) || (!decide (D.fi = -1) && decide (D.fi < e9)))) := rfl
        generalize fnB D e9 fin = fb at *
        generalize lE D.re D.P = le at *
        by_cases hf : D.fi = -1
        · have tf : (D.fi != (-1 : Int)) = false := by simp [hf]
          have HF := hide hf
          cases fin with
          | false =>
            have e1 : Hid (Value.bool false = .bool fb) := by show _ = _; rw [unhide FB, decide_eq_true hf]; rfl
            clear hf FB
            go_wp2
            go_meet
            exact ⟨unhide e1, hide (Below.refl _ _)⟩
          | true =>
            have e1 : Hid (Value.bool (decide (e9 < le)) = .bool fb) := by show _ = _; rw [unhide FB, decide_eq_true hf]; simp
            clear hf FB
            go_wp2_with fail
            refine (unhide LE _ (Below.refl _ _)).mono ?_
            rintro e w5 ⟨rfl, b5⟩
            have a5 := ((unhide A3).below b5).cv
            have a5l := ((unhide A3).below b5).lt
            have B5 := hide b5
            clear b5 a3 a3l z3 z3f z3l
            by_cases hle : e9 < le
            · have tl : decide (e9 < le) = true := decide_eq_true hle
              rw [tl] at e1
              clear hle
              go_wp2
              go_meet
              exact ⟨unhide e1, B5⟩
            · have tl : decide (e9 < le) = false := decide_eq_false hle
              rw [tl] at e1
              clear hle
              go_wp2
              go_meet
              exact ⟨unhide e1, B5⟩
        · have tf : (D.fi != (-1 : Int)) = true := by simp [hf]
          by_cases hl : D.fi < e9
          · have tl : decide (D.fi < e9) = true := decide_eq_true hl
            have tn : (D.fi != e9) = true := by simp; omega
            have e1 : Hid (Value.bool true = .bool fb) := by show _ = _; rw [unhide FB, decide_eq_false hf, tl]; simp
            clear FB hl hf
            cases fin with
            | false => go_wp2; go_meet; exact ⟨unhide e1, hide (Below.refl _ _)⟩
            | true => go_wp2; go_meet; exact ⟨unhide e1, hide (Below.refl _ _)⟩
          · have tl : decide (D.fi < e9) = false := decide_eq_false hl
            cases fin with
            | false =>
              have e1 : Hid (Value.bool false = .bool fb) := by show _ = _; rw [unhide FB, tl]; simp
              clear FB hl hf
              go_wp2
              go_meet
              exact ⟨unhide e1, hide (Below.refl _ _)⟩
            | true =>
              by_cases hq : D.fi = e9
              · have tn : (D.fi != e9) = false := by simp [hq]
                have e1 : Hid (Value.bool (decide (e9 < le)) = .bool fb) := by show _ = _; rw [unhide FB, tl, decide_eq_true hq]; simp
                clear FB hl hf hq
                go_wp2_with fail
                refine (unhide LE _ (Below.refl _ _)).mono ?_
                rintro e w5 ⟨rfl, b5⟩
                have a5 := ((unhide A3).below b5).cv
                have a5l := ((unhide A3).below b5).lt
                have B5 := hide b5
                clear b5 a3 a3l z3 z3f z3l
                by_cases hle : e9 < le
                · have tl2 : decide (e9 < le) = true := decide_eq_true hle
                  rw [tl2] at e1
                  clear hle
                  go_wp2
                  go_meet
                  exact ⟨unhide e1, B5⟩
                · have tl2 : decide (e9 < le) = false := decide_eq_false hle
                  rw [tl2] at e1
                  clear hle
                  go_wp2
                  go_meet
                  exact ⟨unhide e1, B5⟩
              · have tn : (D.fi != e9) = true := by simp [hq]
                have e1 : Hid (Value.bool true = .bool fb) := by show _ = _; rw [unhide FB, decide_eq_false hf, decide_eq_false hq]; simp
                clear FB hl hf hq
                go_wp2
                go_meet
                exact ⟨unhide e1, hide (Below.refl _ _)⟩
      case rest =>
      obtain ⟨rfl, b4⟩ := hcut
      obtain ⟨V4, hV4⟩ : ∃ V, V = wc := ⟨_, rfl⟩
      rw [← hV4] at b4 ⊢
      clear hV4 a3 a3l z3 z3f z3l LE
      have a4 := ((unhide A3).below (unhide b4)).cv
      have a4l := ((unhide A3).below (unhide b4)).lt
      have z4 := ((unhide Z3).below (unhide b4)).cv
      have z4f := ((unhide Z3).below (unhide b4)).fz
      have z4l := ((unhide Z3).below (unhide b4)).lt
      cases hfn : fnB D e9 fin with
      | true =>
        have hc : co = 3 := by rw [← unhide HC2, if_pos hfn]
        have FIN := hide (fun V k => unhide SAME 3 (hc) (by decide) (by decide) V ((Kq.of (unhide b4)).trans k))
        clear hc SAME HC2 TKD TKP GI OKP A3 Z3 O3 B3
        go_wp2
        refine bodyPost_ret (v := .tuple #[.agg #[.int .i64 D.li, .int .i64 D.re, .int .i64 D.fi, .slice a2 D.P.length c2], .int .i64 3]) (by simp [results, Try.results20, go_sem, z4]) rfl (unhide FIN _ ?_)
        repeat (refine Kq.set ?_ rfl)
        exact Kq.refl _ _
      | false =>
        rw [if_neg (by rw [hfn]; exact Bool.false_ne_true)] at HC2
        go_upto_region 9 with fail
        have CB := hide (specCB D a2 c2 at' d V4 (unhide OKP) okn at0 (by omega) (by omega) ((unhide O3).rix.1.rd.below (unhide b4)))
        cases hcl : clB D.P at' d with
        | true =>
          have hc : co = 4 := by rw [← unhide HC2, if_pos hcl]
          rw [hcl] at CB
          go_wp2_with fail
          refine (unhide CB).mono ?_
          rintro e w5 ⟨rfl, b5⟩
          have B5 := (unhide b4).trans (b5.mono (unhide b4).size)
          have a5 := ((unhide A3).below B5).cv
          have a5l := ((unhide A3).below B5).lt
          have z5 := ((unhide Z3).below B5).cv
          have z5f := ((unhide Z3).below B5).fz
          have z5l := ((unhide Z3).below B5).lt
          have FIN := hide (fun V k => unhide SAME 4 hc (by decide) (by decide) V ((Kq.of B5).trans k))
          clear hc SAME HC2 TKD TKP GI OKP A3 Z3 O3 B3 b4 b5 B5 a4 a4l z4 z4f z4l CB hcl hfn
          go_wp2
          refine bodyPost_ret (v := .tuple #[.agg #[.int .i64 D.li, .int .i64 D.re, .int .i64 D.fi, .slice a2 D.P.length c2], .int .i64 4]) (by simp [results, Try.results20, go_sem, z5]) rfl (unhide FIN _ ?_)
          repeat (refine Kq.set ?_ rfl)
          exact Kq.refl _ _
        | false =>
          rw [if_neg (by rw [hcl]; exact Bool.false_ne_true)] at HC2
          rw [hcl] at CB
          go_wp2_with fail
          refine (unhide CB).mono ?_
          rintro e w5 ⟨rfl, b5⟩
          obtain ⟨V6, hV6⟩ : ∃ V, V = w5.alloc (.cells #[.int .i64 D.li, .int .i64 D.re, .int .i64 D.fi, .slice a2 D.P.length c2] 39) := ⟨_, rfl⟩
          have al6 : Below w5.heap.size w5 V6 := by rw [hV6]; exact (Below.refl _ _).alloc (Nat.le_refl _) _
          have B5 := (unhide b4).trans (b5.mono (unhide b4).size)
          have b6 := hide (B5.trans (al6.mono B5.size))
          have X6 := hide (show Bx V6 w5.heap.size (inflowC D a2 c2) by rw [hV6]; exact Bx.new w5 _ _)
          have a5 := ((unhide A3).below B5).cv
          have a5l := ((unhide A3).below B5).lt
          have s5 := B5.size
          have HV6 := hide hV6
          obtain ⟨xb, hxb⟩ : ∃ q, q = w5.heap.size := ⟨_, rfl⟩
          have hx6 : V3.heap.size ≤ xb := by omega
          have hx7 : xb < V6.heap.size := by rw [hxb]; exact (unhide X6).lt
          rw [← hxb] at X6
          clear hV6 al6 B5 b5 a4 a4l z4 z4f z4l CB hcl hfn b4
          go_upto_region 12 with fail
          rw [← unhide HV6, ← hxb]
          clear HV6 a5 a5l hxb s5
          have a6 := ((unhide A3).below (unhide b6)).cv
          have a6l := ((unhide A3).below (unhide b6)).lt
          have g := unhide GI
          obtain ⟨P', hP'⟩ : ∃ P', tkP D at' d = P' := ⟨_, rfl⟩
          rw [hP'] at TKD TKP HC2
          clear hP'
          have O6 := hide ((unhide O3).below (unhide b6))
          have OB6 := hide (fun q hq => World.ownsRow.lt (w := V3) (unhide O3) q hq)
          go_upto_if 76 with fail
          go_cut [] (fun wx => ∃ (a8 : Option Addr) (c8 : Nat), Hid (Bx wx xb [.int .i64 D.li, .int .i64 D.re, .int .i64 D.fi, .slice a8 P'.length c8]) ∧ Hid (Ro pieceK 53 (W.heap.size + 2) wx (.slice a8 P'.length c8) P') ∧ Hid (∀ q, (Value.slice a8 P'.length c8).ownBlock = some q → q ≠ xb) ∧ Hid (Below V3.heap.size V3 wx))
          case first =>
            by_cases hr : D.re < e9
            · have hX : Hid (lowP (tkX D.re at' d)) := by
                show _ ∧ _
                unfold tkX pE
                have h0 := g.r0
                have h1 := g.l1
                split
                · dsimp only
                  rw [ByteArray.size_extract]
                  have := unhide HE9
                  omega
                · dsimp only
                  have := unhide HE9
                  omega
              have hL : Hid (∀ p ∈ D.P, lowP p) := fun p hp => ⟨by have := can_lo g.can p hp; have := g.r0; omega, by have := (g.hi p hp).1; have := g.l1; omega⟩
              have EX : Hid (∀ n : Nat, D.re - at' = n → tkX D.re at' d = ⟨D.re, d.extract n d.size⟩ ∨ ¬ at' < D.re) := fun n hn => by
                by_cases h : at' < D.re
                · left; unfold tkX; rw [if_pos h, show (D.re - at').toNat = n by omega]
                · exact Or.inr h
              have EY : Hid (¬ at' < D.re → tkX D.re at' d = ⟨at', d⟩) := fun h => by unfold tkX; rw [if_neg h]
              generalize tkX D.re at' d = X at *
              have hr' : D.re < e9 := hr
              go_upto_if 80 with fail
              go_cut [1, 2] (fun s1 s2 wx => s1 = .int .i64 X.f0 ∧ s2 = .string X.f1 ∧ wx = V6)
              case first =>
                by_cases ha : at' < D.re
                · obtain ⟨n, hn⟩ : ∃ n : Nat, D.re - at' = n := ⟨(D.re - at').toNat, by omega⟩
                  have e1 : Hid (X = ⟨D.re, d.extract n d.size⟩) := (unhide EX n hn).resolve_right (fun h => h ha)
                  have wn : IntKind.i64.wrap (D.re - at') = (n : Int) := by rw [IntKind.wrap_i64]; have := g.r1; have := g.l1; omega
                  have n0 : (0 : Int) ≤ (n : Int) := by omega
                  have n1 : (n : Int) ≤ (d.size : Int) := by have := unhide HE9; omega
                  have n2 : (0 : Int) ≤ (d.size : Int) := by omega
                  have n3 : ((n : Int)).toNat = n := rfl
                  have n4 : ((d.size : Int)).toNat = d.size := rfl
                  have f1 : Hid (Value.int .i64 D.re = .int .i64 X.f0) := by show _ = _; rw [unhide e1]
                  have f2 : Hid (Value.string (d.extract n d.size) = .string X.f1) := by show _ = _; rw [unhide e1]
                  clear hn e1 EX EY
                  go_wp2
                  go_meet
                  exact ⟨unhide f1, unhide f2, rfl⟩
                · have e1 := unhide EY ha
                  have f1 : Hid (Value.int .i64 at' = .int .i64 X.f0) := by show _ = _; rw [e1]
                  have f2 : Hid (Value.string d = .string X.f1) := by show _ = _; rw [e1]
                  clear e1 EX EY
                  go_wp2
                  go_meet
                  exact ⟨unhide f1, unhide f2, rfl⟩
              case rest =>
              obtain ⟨rfl, rfl, hw⟩ := hcut
              rw [hw]
              clear EX EY hw
              by_cases hz : X.f1.size = 0
              · have hp : P' = D.P := by rw [unhide TKP, if_neg (fun h => h.2 hz)]
                have he : X.f1.toList = [] := (sz_nil _).2 hz
                have G1 : Hid (Bx V6 xb [.int .i64 D.li, .int .i64 D.re, .int .i64 D.fi, .slice a2 P'.length c2]) := by show Bx _ _ _; rw [hp]; exact unhide X6
                have G2 : Hid (Ro pieceK 53 (W.heap.size + 2) V6 (.slice a2 P'.length c2) P') := by show Ro _ _ _ _ _ _; rw [hp]; exact unhide O6
                have G3 : Hid (∀ q, (Value.slice a2 P'.length c2).ownBlock = some q → q ≠ xb) := by show ∀ q, _; rw [hp]; intro q hq; have := unhide OB6 q hq; omega
                clear hp hz
                go_wp2
                go_meet
                exact ⟨a2, c2, G1, G2, G3, b6⟩
              · have hp : P' = putS D.P X := by rw [unhide TKP, if_pos ⟨hr, hz⟩]
                have he : ¬ X.f1.toList = [] := fun h => hz ((sz_nil _).1 h)
                have he2 := em_no he
                have PT := hide (specPt D.P X D.re g.can (unhide hL) (unhide hX) (by have := g.n; omega) V6 a2 c2 (unhide O6).rix.1.rd)
                have x6 := (unhide X6).cv
                have x6l := (unhide X6).lt
                rw [← hp] at PT
                clear hp hz
                go_wp2_with fail
                refine (unhide PT).mono ?_
                rintro e w7 ⟨v7, rfl, o7, b7⟩
                obtain ⟨a8, c8, rfl⟩ := o7.opens
                have X7 := (unhide X6).below b7
                have x7 := X7.cv
                have x7f := X7.fz
                have x7l := X7.lt
                have k8 : Kq (fun q => q = xb) w7 (w7.setCell ⟨xb, 3, none⟩ (.slice a8 P'.length c8)) := (Kq.refl _ _).set rfl
                have s7 := b7.size
                have s6 := (unhide b6).size
                have G1 := hide (X7.set (i := 3) (u := .slice a8 P'.length c8) (by simp))
                have G2 : Hid (Ro pieceK 53 (W.heap.size + 2) (w7.setCell ⟨xb, 3, none⟩ (.slice a8 P'.length c8)) (.slice a8 P'.length c8) P') := (o7.kq k8 (fun q hq => by omega)).mono (by omega)
                have G3 : Hid (∀ q, (Value.slice a8 P'.length c8).ownBlock = some q → q ≠ xb) := fun q hq => by have := World.ownsRow.lt (w := w7) o7 q hq; omega
                have G4 := hide (((unhide b6).trans (b7.mono s6)).trans (k8.below (base := V3.heap.size) (by omega) (fun q hq => by omega)))
                clear o7 b7 X7 k8 PT x6 x6l
                go_wp2
                go_meet
                exact ⟨a8, c8, G1, G2, G3, G4⟩
            · have hp : P' = D.P := by rw [unhide TKP, if_neg (fun h => hr h.1)]
              have hr' : ¬ D.re < e9 := hr
              have G1 : Hid (Bx V6 xb [.int .i64 D.li, .int .i64 D.re, .int .i64 D.fi, .slice a2 P'.length c2]) := by show Bx _ _ _; rw [hp]; exact unhide X6
              have G2 : Hid (Ro pieceK 53 (W.heap.size + 2) V6 (.slice a2 P'.length c2) P') := by show Ro _ _ _ _ _ _; rw [hp]; exact unhide O6
              have G3 : Hid (∀ q, (Value.slice a2 P'.length c2).ownBlock = some q → q ≠ xb) := by show ∀ q, _; rw [hp]; intro q hq; have := unhide OB6 q hq; omega
              clear hp
              go_wp2
              go_meet
              exact ⟨a2, c2, G1, G2, G3, b6⟩
          case rest =>
          obtain ⟨a8, c8, X8, O8, N8, b8⟩ := hcut
          obtain ⟨V8, hV8⟩ : ∃ V, V = wc := ⟨_, rfl⟩
          rw [← hV8] at X8 O8 b8 ⊢
          clear hV8 a6 a6l X6 O6 OB6 b6
          have hzx : W.heap.size + 1 ≠ xb := by have := (unhide Z3).lt; omega
          have x8 := (unhide X8).cv
          have x8f := (unhide X8).fz
          have x8l := (unhide X8).lt
          have a8' := ((unhide A3).below (unhide b8)).cv
          have a8l := ((unhide A3).below (unhide b8)).lt
          have z8 := ((unhide Z3).below (unhide b8)).cv
          have z8f := ((unhide Z3).below (unhide b8)).fz
          have z8l := ((unhide Z3).below (unhide b8)).lt
          by_cases h40 : 40 < P'.length
          · have hc : co = 5 := by rw [← unhide HC2, if_pos h40]
            have t40 : (40 : Int) < (P'.length : Int) := by omega
            have FIN := hide (fun V k => unhide SAME 5 hc (by decide) (by decide) V ((Kq.of (unhide b8)).trans k))
            clear hc SAME HC2 TKD TKP GI OKP A3 Z3 O3 B3 X8 O8 N8 b8
            go_wp2
            refine bodyPost_ret (v := .tuple #[.agg #[.int .i64 D.li, .int .i64 D.re, .int .i64 D.fi, .slice a2 D.P.length c2], .int .i64 5]) (by simp [results, Try.results20, go_sem, z8]) rfl (unhide FIN _ ?_)
            repeat (refine Kq.set ?_ rfl)
            exact Kq.refl _ _
          · have hc : co = 0 := by rw [← unhide HC2, if_neg h40]
            have t40 : ¬ (40 : Int) < (P'.length : Int) := by omega
            have FIN : Hid (∀ (f : Int) (U : World), f = (if fin = true then e9 else D.fi) → Kq (fun q => q = W.heap.size + 1 ∨ q = xb) V8 U → TPQ (tkD D at' d fin co) co W (.returned (.tuple #[.agg #[.int .i64 D.li, .int .i64 D.re, .int .i64 f, .slice a8 P'.length c8], .int .i64 0])) U) := fun f U hf k => by
              rw [hc, unhide TKD, hf]
              exact ⟨a8, c8, rfl, (unhide O8).ko k (fun q hq h => by have h1 := World.ownsRow.lt (w := V8) (unhide O8) q hq; have h2 := unhide N8 q hq; omega), ((unhide B3).trans ((unhide b8).mono s3)).trans (k.below (base := W.heap.size) (by have := (unhide b8).size; omega) (fun q hq => by omega))⟩
            clear hc SAME HC2 TKD TKP GI OKP A3 Z3 O3 B3 O8 N8
            cases fin with
            | false =>
              have FN := hide (fun U k => unhide FIN D.fi U rfl k)
              clear FIN
              go_wp2
              refine bodyPost_ret (v := .tuple #[.agg #[.int .i64 D.li, .int .i64 D.re, .int .i64 D.fi, .slice a8 P'.length c8], .int .i64 0]) (by simp [results, Try.results20, go_sem, z8]) rfl (unhide FN _ ?_)
              repeat (refine Kq.set ?_ (Or.inl rfl))
              exact Kq.refl _ _
            | true =>
              have FN := hide (fun U k => unhide FIN e9 U rfl k)
              obtain ⟨V9, hV9⟩ : ∃ V, V = V8.setCell ⟨xb, 2, none⟩ (.int .i64 e9) := ⟨_, rfl⟩
              have k9 := hide (show Kq (fun q => q = W.heap.size + 1 ∨ q = xb) V8 V9 by rw [hV9]; exact (Kq.refl _ _).set (Or.inr rfl))
              have X9 := hide (show Bx V9 xb [.int .i64 D.li, .int .i64 D.re, .int .i64 e9, .slice a8 P'.length c8] by rw [hV9]; exact (unhide X8).set (i := 2) (by simp))
              have z9 : ∀ o, V9.cell? ⟨W.heap.size + 1, o, none⟩ = [Value.int .i64 0, .int .i64 0, .int .i64 0, .slice none 0 0][o]? := by rw [hV9]; exact fun o => (World.cell?_of_block (a := ⟨W.heap.size + 1, o, none⟩) (Below.heap_setCell V8 ⟨xb, 2, none⟩ (.int .i64 e9) (W.heap.size + 1) (by simpa using hzx))).trans (z8 o)
              have z9f : ∀ o, V9.frozen? ⟨W.heap.size + 1, o, none⟩ = false := by rw [hV9]; intro o; simpa using z8f o
              have z9l : W.heap.size + 1 < V9.heap.size := by rw [hV9]; simpa using z8l
              have HV9 := hide hV9
              clear hV9 FIN X8
              go_upto_region 22 with fail
              rw [← unhide HV9]
              clear HV9 x8 x8f x8l a8' a8l z8 z8f z8l
              have x9 := (unhide X9).cv
              have x9l := (unhide X9).lt
              clear X9
              go_wp2
              refine bodyPost_ret (v := .tuple #[.agg #[.int .i64 D.li, .int .i64 D.re, .int .i64 e9, .slice a8 P'.length c8], .int .i64 0]) (by simp [results, Try.results20, go_sem, z9]) rfl (unhide FN _ ((unhide k9).trans ?_))
              repeat (refine Kq.set ?_ (Or.inl rfl))
              exact Kq.refl _ _
  · have t15 : decide ((1500 : Int) < (d.size : Int)) = true := decide_eq_true (by omega)
    have hA : tkA D at' d = false := by rw [unhide HA]; simp [h15]
    have FIN := hide (unhide ONE hA)
    clear hA HA HC ONE GD AN OKP R0
    go_enter Try.func20, Try.ntmps20
    go_upto_region 1 with fail
    rw [← unhide HV0]
    clear HV0
    go_wp2_with fail
    refine (unhide HG).mono ?_
    rintro e w1 ⟨rfl, b1⟩
    have Z1 := (unhide Z0).below b1
    have B1 := hide ((unhide B0).trans (b1.mono (unhide B0).size))
    have z1 := Z1.cv
    have z1f := Z1.fz
    have z1l := Z1.lt
    clear b1 HG A0 Z0 B0 Z1 a0 a0l
    go_wp2_with (go_at_call 28; (with_reducible refine (unhide HK _).mono ?_); rintro e w9 ⟨rfl, h9⟩; rw [h9]; clear h9 w9)
    refine bodyPost_ret (v := .tuple #[.agg #[.int .i64 0, .int .i64 0, .int .i64 0, .slice none 0 0], .int .i64 1]) (by simp [results, Try.results20, go_sem, z1]) rfl (unhide FIN _ ?_)
    repeat (refine Below.setCell ?_ (by simp <;> omega) _)
    exact unhide B1
end Go.Proofs.Ytmicpknilhiliaa.Rc
