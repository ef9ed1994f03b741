/-
  Contracts: grows of a window one behind the other, of the model.
-/
import Derived.Test.YtpjpmlopmknllaaWnd
import Derived.Test.YtpjpmlopmknllaaRcGrow
import Derived.Test.YtpjpmlopmknllaaRci
namespace Go.Proofs.Ytpjpmlopmknllaa.Rc
open Go.ChangeShapes Go.WideShapes Go.ChangeAt Go.RowKit Go.Deep
set_option linter.unusedVariables false
set_option maxRecDepth 100000

/-- one grow: whether it tells true, and the window then -/
def grO (D : WindowD) (g : GrowD) : Bool := if g.f0 = 1 then sbB D g.f1 else if g.f0 = 2 then abB D g.f1 g.f2 else if g.f0 = 3 then lbB D g.f1 g.f2 g.f3 else if g.f0 = 4 then wgB D else false
def grX (D : WindowD) (g : GrowD) : WindowD := if g.f0 = 1 then sbD D g.f1 (sbB D g.f1) else if g.f0 = 2 then abD D g.f1 g.f2 (abB D g.f1 g.f2) else if g.f0 = 3 then lbD D g.f1 g.f2 g.f3 (lbB D g.f1 g.f2 g.f3) else if g.f0 = 4 then swD D (wgB D) else D
def grS (D : WindowD) (g : GrowD) : WindowD := if grO D g = true then grX D g else D
/-- the sizes behind each -/
def pwS : WindowD → List GrowD → List Int
  | _, [] => []
  | D, g :: l => (grS D g).f0 :: pwS (grS D g) l
theorem pwS_snoc : ∀ (L : List GrowD) (D : WindowD) (x : GrowD), pwS D (L ++ [x]) = pwS D L ++ [(grS (L.foldl grS D) x).f0]
  | [], D, x => rfl
  | g :: L, D, x => by
    show (grS D g).f0 :: pwS (grS D g) (L ++ [x]) = _
    rw [pwS_snoc L (grS D g) x]
    rfl
theorem pwS_len : ∀ (L : List GrowD) (D : WindowD), (pwS D L).length = L.length
  | [], D => rfl
  | g :: L, D => by
    show (pwS (grS D g) L).length + 1 = _
    rw [pwS_len L (grS D g)]
    rfl
theorem take_grow {L : List GrowD} {k : Nat} (h : k < L.length) : L.take (k + 1) = L.take k ++ [gt growK L k] := by rw [gt_of growK L k h]; exact (List.take_append_getElem h).symm
def pwB (L : List GrowD) : Bool := decide (L.length ≤ 100)
def pwD (L : List GrowD) : Bool → WindowD
  | true => L.foldl grS nwD
  | false => wndZ
def pwL (L : List GrowD) : Bool → List Int
  | true => pwS nwD L
  | false => []
/-- a window and a row of numbers are answered -/
def FQ (E : WindowD) (A : List Int) (r : Bool) (W : World) (e : Ending) (w' : World) : Prop :=
  ∃ (a : Option Addr) (c g : Nat), e = .returned (.tuple #[windowV E, .slice a A.length c, .bool r]) ∧ Rb intK W.heap.size w' a A g ∧ Below W.heap.size W w'
def PWP (L : List GrowD) (W : World) (e : Ending) (w' : World) : Prop := FQ (pwD L (pwB L)) (pwL L (pwB L)) (pwB L) W e w'
theorem PWP.no {L : List GrowD} {W w' : World} (h : pwB L = false) (b : Below W.heap.size W w') : PWP L W (.returned (.tuple #[windowZ, .slice none 0 0, .bool false])) w' := by
  unfold PWP
  rw [h]
  exact ⟨none, 0, 0, rfl, Or.inl rfl, b⟩
theorem PWP.yes {L : List GrowD} {W w' : World} {a : Option Addr} {c g : Nat} {E : WindowD} (h : pwB L = true) (he : E = L.foldl grS nwD) (hr : Rb intK W.heap.size w' a (pwS nwD L) g) (b : Below W.heap.size W w') : PWP L W (.returned (.tuple #[windowV E, .slice a (pwS nwD L).length c, .bool true])) w' := by
  unfold PWP
  rw [h, he]
  exact ⟨a, c, g, rfl, hr, b⟩
set_option maxHeartbeats 8000000 in
theorem specGr (D : WindowD) (g : GrowD) (w : World) : Calls Try.prog 33 #[windowV D, growV g] w fun e w' => e = .returned (.tuple #[windowV (grX D g), .bool (grO D g)]) ∧ Below w.heap.size w w' := by
  obtain ⟨V0, hV0⟩ : ∃ V, V = ((w.alloc (.cells (windowC D).toArray 24)).alloc (.cells (growC g).toArray 67)).alloc (.cells #[.int .i64 0, .int .i64 0, .int .i64 0, .int .i64 0] 24) := ⟨_, rfl⟩
  have X0 := hide (show Bx V0 w.heap.size (windowC D) by rw [hV0]; exact ((Bx.new w _ _).alloc _).alloc _)
  have G0 := hide (show Bx V0 (w.heap.size + 1) (growC g) by rw [hV0]; exact (Bx.newAt (w.alloc _) _ _ _ (by simp)).alloc _)
  have R0 := hide (show Bx V0 (w.heap.size + 1 + 1) [.int .i64 0, .int .i64 0, .int .i64 0, .int .i64 0] by rw [hV0]; exact Bx.newAt ((w.alloc _).alloc _) _ _ _ (by simp))
  have B0 := hide (show Below w.heap.size w V0 by rw [hV0]; exact (((Below.refl w.heap.size w).alloc (Nat.le_refl _) _).alloc (by simp) _).alloc (by simp; omega) _)
  have x0 := (unhide X0).cv
  have x0l := (unhide X0).lt
  have g0 := (unhide G0).cv
  have g0l := (unhide G0).lt
  have HV0 := hide hV0
  clear hV0
  obtain ⟨k, s, t, now⟩ := g
  by_cases h1 : k = 1
  · have eO : grO D ⟨k, s, t, now⟩ = sbB D s := by unfold grO; rw [if_pos h1]
    have eX : grX D ⟨k, s, t, now⟩ = sbD D s (sbB D s) := by unfold grX; rw [if_pos h1]
    rw [eO, eX]
    have HH := hide (specSB D s)
    have t1 : (k == 1) = true := beq_iff_eq.2 h1
    clear eO eX
    generalize sbD D s (sbB D s) = E at *
    generalize sbB D s = r at *
    clear h1
    go_enter Try.func33, Try.ntmps33
    go_upto_region 1 with fail
    rw [← unhide HV0]
    clear HV0
    go_wp2_with fail
    refine (unhide HH _).mono ?_
    rintro e w1 ⟨rfl, b1⟩
    have r1 := ((unhide R0).below b1).cv
    have r1f := ((unhide R0).below b1).fz
    have r1l := ((unhide R0).below b1).lt
    have B1 := hide ((unhide B0).trans (b1.mono (unhide B0).size))
    clear b1 B0 X0 G0 R0 x0 x0l g0 g0l
    go_wp2
    refine bodyPost_ret (v := .tuple #[.agg #[.int .i64 E.f0, .int .i64 E.f1, .int .i64 E.f2, .int .i64 E.f3], .bool r]) (by simp [results, Try.results33, go_sem, r1]) rfl ⟨rfl, ?_⟩
    repeat (refine Below.setCell ?_ (by simp <;> omega) _)
    exact unhide B1
  by_cases h2 : k = 2
  · have eO : grO D ⟨k, s, t, now⟩ = abB D s t := by unfold grO; rw [if_neg h1, if_pos h2]
    have eX : grX D ⟨k, s, t, now⟩ = abD D s t (abB D s t) := by unfold grX; rw [if_neg h1, if_pos h2]
    rw [eO, eX]
    have HH := hide (specAB D s t)
    have t1 : (k == 1) = false := beq_eq_false_iff_ne.2 h1
    have t2 : (k == 2) = true := beq_iff_eq.2 h2
    clear eO eX
    generalize abD D s t (abB D s t) = E at *
    generalize abB D s t = r at *
    clear h1 h2
    go_enter Try.func33, Try.ntmps33
    go_upto_region 1 with fail
    rw [← unhide HV0]
    clear HV0
    go_wp2_with fail
    refine (unhide HH _).mono ?_
    rintro e w1 ⟨rfl, b1⟩
    have r1 := ((unhide R0).below b1).cv
    have r1f := ((unhide R0).below b1).fz
    have r1l := ((unhide R0).below b1).lt
    have B1 := hide ((unhide B0).trans (b1.mono (unhide B0).size))
    clear b1 B0 X0 G0 R0 x0 x0l g0 g0l
    go_wp2
    refine bodyPost_ret (v := .tuple #[.agg #[.int .i64 E.f0, .int .i64 E.f1, .int .i64 E.f2, .int .i64 E.f3], .bool r]) (by simp [results, Try.results33, go_sem, r1]) rfl ⟨rfl, ?_⟩
    repeat (refine Below.setCell ?_ (by simp <;> omega) _)
    exact unhide B1
  by_cases h3 : k = 3
  · have eO : grO D ⟨k, s, t, now⟩ = lbB D s t now := by unfold grO; rw [if_neg h1, if_neg h2, if_pos h3]
    have eX : grX D ⟨k, s, t, now⟩ = lbD D s t now (lbB D s t now) := by unfold grX; rw [if_neg h1, if_neg h2, if_pos h3]
    rw [eO, eX]
    have HH := hide (specLB D s t now)
    have t1 : (k == 1) = false := beq_eq_false_iff_ne.2 h1
    have t2 : (k == 2) = false := beq_eq_false_iff_ne.2 h2
    have t3 : (k == 3) = true := beq_iff_eq.2 h3
    clear eO eX
    generalize lbD D s t now (lbB D s t now) = E at *
    generalize lbB D s t now = r at *
    clear h1 h2 h3
    go_enter Try.func33, Try.ntmps33
    go_upto_region 1 with fail
    rw [← unhide HV0]
    clear HV0
    go_wp2_with fail
    refine (unhide HH _).mono ?_
    rintro e w1 ⟨rfl, b1⟩
    have r1 := ((unhide R0).below b1).cv
    have r1f := ((unhide R0).below b1).fz
    have r1l := ((unhide R0).below b1).lt
    have B1 := hide ((unhide B0).trans (b1.mono (unhide B0).size))
    clear b1 B0 X0 G0 R0 x0 x0l g0 g0l
    go_wp2
    refine bodyPost_ret (v := .tuple #[.agg #[.int .i64 E.f0, .int .i64 E.f1, .int .i64 E.f2, .int .i64 E.f3], .bool r]) (by simp [results, Try.results33, go_sem, r1]) rfl ⟨rfl, ?_⟩
    repeat (refine Below.setCell ?_ (by simp <;> omega) _)
    exact unhide B1
  by_cases h4 : k = 4
  · have eO : grO D ⟨k, s, t, now⟩ = wgB D := by unfold grO; rw [if_neg h1, if_neg h2, if_neg h3, if_pos h4]
    have eX : grX D ⟨k, s, t, now⟩ = swD D (wgB D) := by unfold grX; rw [if_neg h1, if_neg h2, if_neg h3, if_pos h4]
    rw [eO, eX]
    have HH := hide (specSW D)
    have t1 : (k == 1) = false := beq_eq_false_iff_ne.2 h1
    have t2 : (k == 2) = false := beq_eq_false_iff_ne.2 h2
    have t3 : (k == 3) = false := beq_eq_false_iff_ne.2 h3
    have t4 : (k == 4) = true := beq_iff_eq.2 h4
    clear eO eX
    generalize swD D (wgB D) = E at *
    generalize wgB D = r at *
    clear h1 h2 h3 h4
    go_enter Try.func33, Try.ntmps33
    go_upto_region 1 with fail
    rw [← unhide HV0]
    clear HV0
    go_wp2_with fail
    refine (unhide HH _).mono ?_
    rintro e w1 ⟨rfl, b1⟩
    have r1 := ((unhide R0).below b1).cv
    have r1f := ((unhide R0).below b1).fz
    have r1l := ((unhide R0).below b1).lt
    have B1 := hide ((unhide B0).trans (b1.mono (unhide B0).size))
    clear b1 B0 X0 G0 R0 x0 x0l g0 g0l
    go_wp2
    refine bodyPost_ret (v := .tuple #[.agg #[.int .i64 E.f0, .int .i64 E.f1, .int .i64 E.f2, .int .i64 E.f3], .bool r]) (by simp [results, Try.results33, go_sem, r1]) rfl ⟨rfl, ?_⟩
    repeat (refine Below.setCell ?_ (by simp <;> omega) _)
    exact unhide B1
  have eO : grO D ⟨k, s, t, now⟩ = false := by unfold grO; rw [if_neg h1, if_neg h2, if_neg h3, if_neg h4]
  have eX : grX D ⟨k, s, t, now⟩ = D := by unfold grX; rw [if_neg h1, if_neg h2, if_neg h3, if_neg h4]
  rw [eO, eX]
  have t1 : (k == 1) = false := beq_eq_false_iff_ne.2 h1
  have t2 : (k == 2) = false := beq_eq_false_iff_ne.2 h2
  have t3 : (k == 3) = false := beq_eq_false_iff_ne.2 h3
  have t4 : (k == 4) = false := beq_eq_false_iff_ne.2 h4
  clear eO eX h1 h2 h3 h4
  have r1 := (unhide R0).cv
  have r1f := (unhide R0).fz
  have r1l := (unhide R0).lt
  go_enter Try.func33, Try.ntmps33
  go_upto_region 1 with fail
  rw [← unhide HV0]
  clear HV0
  go_wp2
  refine bodyPost_ret (v := .tuple #[.agg #[.int .i64 D.f0, .int .i64 D.f1, .int .i64 D.f2, .int .i64 D.f3], .bool false]) (by simp [results, Try.results33, go_sem, r1]) rfl ⟨rfl, ?_⟩
  repeat (refine Below.setCell ?_ (by simp <;> omega) _)
  exact unhide B0
set_option maxHeartbeats 16000000 in
theorem specPW (L : List GrowD) (hm : L.length ≤ 1048576) (W : World) (a : Option Addr) (c : Nat) (h : Rd growK W a L) : Calls Try.prog 19 #[.slice a L.length c] W (PWP L W) := by
  obtain ⟨V0, hV0⟩ : ∃ V, V = W.alloc (.cells #[.int .i64 0, .int .i64 0, .int .i64 0, .int .i64 0] 24) := ⟨_, rfl⟩
  have R0 := hide (show Bx V0 W.heap.size [.int .i64 0, .int .i64 0, .int .i64 0, .int .i64 0] by rw [hV0]; exact Bx.new W _ _)
  have B0 := hide (show Below W.heap.size W V0 by rw [hV0]; exact (Below.refl W.heap.size W).alloc (Nat.le_refl _) _)
  have HR := hide (fun V (b : Below W.heap.size W V) => h.below b)
  have HV0 := hide hV0
  clear hV0 h
  by_cases h100 : L.length ≤ 100
  · have YES : Hid (∀ (V : World) (E : WindowD) (a : Option Addr) (c g : Nat), E = L.foldl grS nwD → Rb intK W.heap.size V a (pwS nwD L) g → Below W.heap.size W V → PWP L W (.returned (.tuple #[.agg #[.int .i64 E.f0, .int .i64 E.f1, .int .i64 E.f2, .int .i64 E.f3], .slice a (pwS nwD L).length c, .bool true])) V) := fun V E a c g he hr b => PWP.yes (decide_eq_true h100) he hr b
    have t0 : decide (100 < (L.length : Int)) = false := decide_eq_false (by omega)
    have HN := hide (specNW V0)
    go_enter Try.func19, Try.ntmps19
    go_upto_region 1 with fail
    rw [← unhide HV0]
    clear HV0
    go_wp2_with fail
    refine (unhide HN).mono ?_
    rintro e w1 ⟨rfl, b1⟩
    obtain ⟨V1, hV1⟩ : ∃ V, V = w1.alloc (.cells #[.int .i64 nwD.f0, .int .i64 nwD.f1, .int .i64 nwD.f2, .int .i64 nwD.f3] 24) := ⟨_, rfl⟩
    have AL : Below w1.heap.size w1 V1 := by rw [hV1]; exact (Below.refl _ _).alloc (Nat.le_refl _) _
    have X1 := hide (show Bx V1 w1.heap.size (windowC nwD) by rw [hV1]; exact Bx.new w1 _ _)
    have bV := b1.trans (AL.mono b1.size)
    have R1 := hide ((unhide R0).below bV)
    have B1 := hide ((unhide B0).trans (bV.mono (unhide B0).size))
    have s0 : W.heap.size < w1.heap.size := Nat.lt_of_lt_of_le (unhide R0).lt b1.size
    have s1 : w1.heap.size < V1.heap.size := (unhide X1).lt
    have HV1 := hide hV1
    have O0 := hide (Ro.nil intK 3 (w1.heap.size + 1) V1)
    clear hV1 AL bV b1 R0 B0 HN
    go_upto_region 4 with fail
    rw [← unhide HV1]
    clear HV1
    go_wp2_with fail
    go_loopw [6, 18] (fun v6 iv wr => ∃ k : Nat, k ≤ L.length ∧ iv = .int .i64 k ∧ Hid (Ro intK 3 (w1.heap.size + 1) wr v6 (pwS nwD (L.take k))) ∧ Hid (Bx wr w1.heap.size (windowC ((L.take k).foldl grS nwD))) ∧ Hid (Bx wr W.heap.size [.int .i64 0, .int .i64 0, .int .i64 0, .int .i64 0]) ∧ Hid (Below W.heap.size W wr)) (fun _ iv _ => L.length - (intOf iv).toNat)
    case atStart => exact ⟨0, Nat.zero_le _, rfl, O0, X1, R1, B1⟩
    case round =>
      obtain ⟨k, hk, rfl, h6, hX, hR0, hB⟩ := hrel
      clear O0 X1 R1 B1
      have hp := (unhide hX).lt
      by_cases hlt : k < L.length
      · rcases unhide HR wr (unhide hB) with h9 | ⟨b, o, rfl, _, hel⟩
        · rw [h9] at hlt; exact absurd hlt (Nat.not_lt_zero _)
        have c0 := grow_r0 hel hlt
        have c1 := grow_r1 hel hlt
        have c2 := grow_r2 hel hlt
        have c3 := grow_r3 hel hlt
        have PS := pwS_snoc (L.take k) nwD (gt growK L k)
        rw [← take_grow hlt] at PS
        have PF : (L.take (k + 1)).foldl grS nwD = grS ((L.take k).foldl grS nwD) (gt growK L k) := by rw [take_grow hlt, List.foldl_append]; rfl
        have nA : (pwS nwD (L.take k)).length ≤ 100 := by rw [pwS_len]; have := List.length_take_le k L; omega
        generalize (L.take k).foldl grS nwD = D at *
        generalize pwS nwD (L.take k) = Ak at *
        generalize gt growK L k = x at *
        have HG := hide (specGr D x)
        have eS : Hid (grS D x = if grO D x = true then grX D x else D) := rfl
        generalize grX D x = E at *
        generalize grO D x = r at *
        obtain ⟨x0, x1, x2, x3⟩ := x
        obtain ⟨W1, hW1⟩ : ∃ V, V = wr.alloc (.cells #[.int .i64 x0, .int .i64 x1, .int .i64 x2, .int .i64 x3] 67) := ⟨_, rfl⟩
        have hAl : Below wr.heap.size wr W1 := by rw [hW1]; exact (Below.refl _ _).alloc (Nat.le_refl _) _
        have Y1 := hide (show Bx W1 wr.heap.size [.int .i64 x0, .int .i64 x1, .int .i64 x2, .int .i64 x3] by rw [hW1]; exact Bx.new wr _ _)
        have HAl := hide hAl
        have xc := ((unhide hX).below hAl).cv
        have xcl := ((unhide hX).below hAl).lt
        have y1 := (unhide Y1).cv
        have y1l := (unhide Y1).lt
        have HW1 := hide hW1
        have hnk : (k : Int) < (L.length : Int) := by omega
        have hk0 : (0 : Int) ≤ (k : Int) := by omega
        clear hAl hW1 hel
        go_upto_region 8 with fail
        rw [← unhide HW1]
        clear HW1
        go_wp2_with fail
        refine (unhide HG _).mono ?_
        rintro e w2 ⟨rfl, b2⟩
        obtain ⟨W3, hW3⟩ : ∃ V, V = w2.alloc (.cells #[.int .i64 E.f0, .int .i64 E.f1, .int .i64 E.f2, .int .i64 E.f3] 24) := ⟨_, rfl⟩
        have AL3 : Below w2.heap.size w2 W3 := by rw [hW3]; exact (Below.refl _ _).alloc (Nat.le_refl _) _
        have Z3 := hide (show Bx W3 w2.heap.size (windowC E) by rw [hW3]; exact Bx.new w2 _ _)
        have bb := (unhide HAl).trans (b2.mono (unhide HAl).size)
        have bb3 := bb.trans (AL3.mono bb.size)
        have X3 := (unhide hX).below bb3
        have R3 := (unhide hR0).below bb3
        have o3 := (unhide h6).below bb3
        have B3 := (unhide hB).trans (bb3.mono (unhide hB).size)
        have q6 := fun q hq => (unhide h6).ob q hq
        have s3 := bb3.size
        have s3' : w2.heap.size < W3.heap.size := (unhide Z3).lt
        have s2' : wr.heap.size ≤ w2.heap.size := bb.size
        have HW3 := hide hW3
        clear hW3 AL3 bb bb3 b2 HG Y1 y1 y1l xc xcl c0 c1 c2 c3 HAl
        have zc := (unhide Z3).cv
        have zcl := (unhide Z3).lt
        obtain ⟨a6, c6, rfl⟩ := (unhide h6).opens
        clear h6 hX hR0 hB
        go_upto_region 9 with fail
        rw [← unhide HW3]
        clear HW3
        cases r with
        | false =>
          have eD : grS D ⟨x0, x1, x2, x3⟩ = D := by rw [unhide eS]; rfl
          rw [eD] at PS PF
          obtain ⟨v4, w4, run, o4, _, kq⟩ := pushInt W3 (w1.heap.size + 1) _ Ak D.f0 o3 (by omega) (by omega)
          have RUN := hide run
          have GO : Hid (Ro intK 3 (w1.heap.size + 1) w4 v4 (pwS nwD (L.take (k + 1)))) := by show Ro _ _ _ _ _ _; rw [PS]; exact o4
          have GX : Hid (Bx w4 w1.heap.size (windowC ((L.take (k + 1)).foldl grS nwD))) := by show Bx _ _ _; rw [PF]; exact X3.kept kq.size (kq.block _ X3.lt (fun e => by have := (q6 _ e).1; omega))
          have GR : Hid (Bx w4 W.heap.size [.int .i64 0, .int .i64 0, .int .i64 0, .int .i64 0]) := R3.kept kq.size (kq.block _ R3.lt (fun e => by have := (q6 _ e).1; omega))
          have GB : Hid (Below W.heap.size W w4) := B3.trans (kq.below (base := W.heap.size) (by omega) (fun q hq => by have := (q6 q hq).1; omega))
          have xc := X3.cv
          have xcl := X3.lt
          clear run o3 o4 kq X3 R3 B3 q6 PS PF eD eS HR YES
          go_wp2_with (at_builtin; refine wpl_app rfl _ _ 42 rfl _ _ _ _ rfl rfl (unhide RUN) ?_)
          exact ⟨⟨k + 1, by omega, by go_num, GO, GX, GR, GB⟩, by simp [intOf]; omega⟩
        | true =>
          have eD : grS D ⟨x0, x1, x2, x3⟩ = E := by rw [unhide eS]; rfl
          rw [eD] at PS PF
          obtain ⟨W4, hW4⟩ : ∃ V, V = (((W3.setCell ⟨w1.heap.size, 0, none⟩ (.int .i64 E.f0)).setCell ⟨w1.heap.size, 1, none⟩ (.int .i64 E.f1)).setCell ⟨w1.heap.size, 2, none⟩ (.int .i64 E.f2)).setCell ⟨w1.heap.size, 3, none⟩ (.int .i64 E.f3) := ⟨_, rfl⟩
          have k4 : Kq (fun q => q = w1.heap.size) W3 W4 := by rw [hW4]; exact (((((Kq.refl (fun q => q = w1.heap.size) W3).set rfl).set rfl).set rfl).set rfl)
          have X4 : Bx W4 w1.heap.size (windowC E) := by rw [hW4]; exact ((((X3.set (i := 0) (by simp)).set (i := 1) (by simp)).set (i := 2) (by simp)).set (i := 3) (by simp))
          have R4 := R3.kept k4.size (k4.block _ R3.lt (by omega))
          have o4' := o3.kq k4 (fun q hq => by omega)
          have B4 := B3.trans (k4.below (base := W.heap.size) (by omega) (fun q hq => by omega))
          have s4 := k4.size
          obtain ⟨v5, w5, run, o5, _, kq⟩ := pushInt W4 (w1.heap.size + 1) _ Ak E.f0 o4' (by omega) (by omega)
          have RUN := hide run
          have GO : Hid (Ro intK 3 (w1.heap.size + 1) w5 v5 (pwS nwD (L.take (k + 1)))) := by show Ro _ _ _ _ _ _; rw [PS]; exact o5
          have GX : Hid (Bx w5 w1.heap.size (windowC ((L.take (k + 1)).foldl grS nwD))) := by show Bx _ _ _; rw [PF]; exact X4.kept kq.size (kq.block _ X4.lt (fun e => by have := (q6 _ e).1; omega))
          have GR : Hid (Bx w5 W.heap.size [.int .i64 0, .int .i64 0, .int .i64 0, .int .i64 0]) := R4.kept kq.size (kq.block _ R4.lt (fun e => by have := (q6 _ e).1; omega))
          have GB : Hid (Below W.heap.size W w5) := B4.trans (kq.below (base := W.heap.size) (by omega) (fun q hq => by have := (q6 q hq).1; omega))
          have xc := X3.cv
          have xcf := X3.fz
          have xcl := X3.lt
          have HW4 := hide hW4
          have yc := X4.cv
          have ycl := X4.lt
          clear hW4 k4 run o3 o4' o5 kq X3 R3 B3 X4 R4 B4 q6 PS PF eD eS HR YES
          go_upto_region 11 with fail
          rw [← unhide HW4]
          clear HW4 xc xcf xcl zc zcl
          go_wp2_with (at_builtin; refine wpl_app rfl _ _ 42 rfl _ _ _ _ rfl rfl (unhide RUN) ?_)
          exact ⟨⟨k + 1, by omega, by go_num, GO, GX, GR, GB⟩, by simp [intOf]; omega⟩
      · obtain rfl : k = L.length := by omega
        rw [List.take_length] at h6 hX
        obtain ⟨a6, c6, e6, _, r6, _⟩ := (unhide h6).rb wr.heap.size
        have z6 := (unhide h6).blk_ge (n := wr.heap.size) (by omega)
        have EE := unhide YES
        generalize hE : L.foldl grS nwD = E at *
        generalize blk (pwS nwD L) u6 wr.heap.size = g6 at *
        generalize hA : pwS nwD L = A at *
        subst e6
        have FIN : Hid (∀ U, Kq (fun q => q = W.heap.size) wr U → PWP L W (.returned (.tuple #[.agg #[.int .i64 E.f0, .int .i64 E.f1, .int .i64 E.f2, .int .i64 E.f3], .slice a6 A.length c6, .bool true])) U) := fun U k => EE U E a6 c6 g6 rfl ((r6.kq k (by omega)).mono (by omega)) ((unhide hB).trans (k.below (base := W.heap.size) (unhide hB).size (fun q hq => by omega)))
        have xc := (unhide hX).cv
        have xcl := (unhide hX).lt
        have rc := (unhide hR0).cv
        have rcf := (unhide hR0).fz
        have rcl := (unhide hR0).lt
        clear r6 h6 hX hR0 hB EE YES HR hE hA z6
        go_wp2
        refine bodyPost_ret (v := .tuple #[.agg #[.int .i64 E.f0, .int .i64 E.f1, .int .i64 E.f2, .int .i64 E.f3], .slice a6 A.length c6, .bool true]) (by simp [results, Try.results19, go_sem, rc]) rfl (unhide FIN _ ?_)
        repeat (refine Kq.set ?_ rfl)
        exact Kq.refl _ _
  · have HE : Hid (pwB L = false) := decide_eq_false h100
    have t0 : decide (100 < (L.length : Int)) = true := decide_eq_true (by omega)
    have r1 := (unhide R0).cv
    have r1f := (unhide R0).fz
    have r1l := (unhide R0).lt
    clear HR h100
    go_enter Try.func19, Try.ntmps19
    go_upto_region 1 with fail
    rw [← unhide HV0]
    clear HV0
    go_wp2
    refine bodyPost_ret (v := .tuple #[windowZ, .slice none 0 0, .bool false]) (by simp [results, Try.results19, go_sem, r1]) rfl (PWP.no (unhide HE) ?_)
    repeat (refine Below.setCell ?_ (by simp <;> omega) _)
    exact unhide B0
end Go.Proofs.Ytpjpmlopmknllaa.Rc
