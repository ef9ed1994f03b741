/-
  The law on MovedKeys, walked.
-/
import Derived.Test.YtpjmnnaiegdjmaaDoorMvs
import Derived.Test.YtpjmnnaiegdjmaaDoorRsw
namespace Go.Proofs.YtpjmnnaiegdjmaaDoor.fnExactMovedKeys
open Go.ChangeShapes Go.WideShapes Go.ChangeAt Go.RowKit Go.Deep
set_option linter.unusedVariables false
set_option maxRecDepth 100000

set_option maxHeartbeats 8000000 in
theorem walk_same (aa ab ak : Option Addr) (ca cb ck : Nat) (A B K : List ByteArray) (nA : A.length ≤ 1048576) (nB : B.length ≤ 1048576) (nK : K.length ≤ 1048576) (M : List ByteArray) (b : Bool) (hM : M.length ≤ 1000000) (w : World) (TA : Ta w aa A) (TB : Ta w ab B) (TK : Ta w ak K) (hT : Rt w)
    (Z1 : Calls Tryd.prog 11 #[.slice aa A.length ca, .int .i64 1048576] w fun e w' => (e = .returned (.int .i64 (-1)) ∨ ∃ r : Nat, e = .returned (.int .i64 r) ∧ r ≤ 1048576) ∧ w' = w)
    (Z2 : ∀ l : Nat, l ≤ 1048576 → Calls Tryd.prog 11 #[.slice ab B.length cb, .int .i64 l] w fun e w' => (e = .returned (.int .i64 (-1)) ∨ ∃ r : Nat, e = .returned (.int .i64 r) ∧ r ≤ 1048576) ∧ w' = w)
    (Z3 : ∀ l : Nat, l ≤ 1048576 → Calls Tryd.prog 11 #[.slice ak K.length ck, .int .i64 l] w fun e w' => (e = .returned (.int .i64 (-1)) ∨ ∃ r : Nat, e = .returned (.int .i64 r) ∧ r ≤ 1048576) ∧ w' = w)
    (HS : ∀ (g1 g2 g3 : Nat) (W : World), Ta W (some ⟨g1, 0, none⟩) A → Ta W (some ⟨g2, 0, none⟩) B → Ta W (some ⟨g3, 0, none⟩) K → Calls Tryd.prog 20 #[.slice (some ⟨g1, 0, none⟩) A.length A.length, .slice (some ⟨g2, 0, none⟩) B.length B.length, .slice (some ⟨g3, 0, none⟩) K.length K.length] W (Rs M b W))
    (HI : ∀ (g1 g2 g3 : Nat) (W : World), Ta W (some ⟨g1, 0, none⟩) A → Ta W (some ⟨g2, 0, none⟩) B → Ta W (some ⟨g3, 0, none⟩) K → Rt W → Calls Tryd.prog 21 #[.slice (some ⟨g1, 0, none⟩) A.length A.length, .slice (some ⟨g2, 0, none⟩) B.length B.length, .slice (some ⟨g3, 0, none⟩) K.length K.length] W (Rs M b W)) :
    Calls Tryd.prog 6 #[.slice aa A.length ca, .slice ab B.length cb, .slice ak K.length ck] w fun e w' => e = .returned (.bool true) ∧ Below w.heap.size w w' := by
  have TTA := hide (fun W (q : Below w.heap.size w W) => toS_any aa A.length ca (tA A) W nA (TA.kept q))
  have TTB := hide (fun W (q : Below w.heap.size w W) => toS_any ab B.length cb (tA B) W nB (TB.kept q))
  have TTK := hide (fun W (q : Below w.heap.size w W) => toS_any ak K.length ck (tA K) W nK (TK.kept q))
  have HZ1 := hide Z1
  have HZ2 := hide Z2
  have HZ3 := hide Z3
  have H1 := hide HS
  have H2 := hide HI
  have HT := hide (fun W (q : Below w.heap.size w W) => hT.kept q)
  generalize hFF : tA M = F at *
  clear HS HI TA TB TK hT Z1 Z2 Z3
  go_enter Tryd.func6, Tryd.ntmps6
  go_wp2_with fail
  refine (unhide HZ1).mono ?_
  rintro e w0 ⟨he, e0⟩
  subst w0
  rcases he with rfl | ⟨r1, rfl, hr1⟩
  · go_wp2
    go_ret
    exact ⟨rfl, Below.refl _ _⟩
  have hn1 : ¬ (r1 : Int) < 0 := by omega
  go_wp2_with fail
  refine (unhide HZ2 _ hr1).mono ?_
  rintro e w0 ⟨he, e0⟩
  subst w0
  rcases he with rfl | ⟨r2, rfl, hr2⟩
  · go_wp2
    go_ret
    exact ⟨rfl, Below.refl _ _⟩
  have hn2 : ¬ (r2 : Int) < 0 := by omega
  go_wp2_with fail
  refine (unhide HZ3 _ hr2).mono ?_
  rintro e w0 ⟨he, e0⟩
  subst w0
  rcases he with rfl | ⟨r3, rfl, hr3⟩
  · go_wp2
    go_ret
    exact ⟨rfl, Below.refl _ _⟩
  have hn3 : ¬ (r3 : Int) < 0 := by omega
  clear HZ1 HZ2 HZ3
  go_wp2_with fail
  refine (unhide TTA _ (Below.refl w.heap.size w)).mono ?_
  rintro e w1 ⟨rfl, s, zz, b1⟩
  have B1 := hide ((Below.refl w.heap.size w).trans (b1.mono (Below.refl w.heap.size w).size))
  have z1 := b1.size
  have S0_1 := hide s
  have zl1 := zz
  clear s zz b1
  go_wp2_with fail
  refine (unhide TTB _ (unhide B1)).mono ?_
  rintro e w2 ⟨rfl, s, zz, b2⟩
  have B2 := hide ((unhide B1).trans (b2.mono (unhide B1).size))
  have z2 := b2.size
  have S0_2 := hide ((unhide S0_1).kept b2)
  clear S0_1
  have S1_2 := hide s
  have zl2 := zz
  clear s zz b2
  go_wp2_with fail
  refine (unhide TTK _ (unhide B2)).mono ?_
  rintro e w3 ⟨rfl, s, zz, b3⟩
  have B3 := hide ((unhide B2).trans (b3.mono (unhide B2).size))
  have z3 := b3.size
  have S0_3 := hide ((unhide S0_2).kept b3)
  clear S0_2
  have S1_3 := hide ((unhide S1_2).kept b3)
  clear S1_2
  have S2_3 := hide s
  have zl3 := zz
  clear s zz b3
  go_wp2_with fail
  refine (unhide H1 _ _ _ _ (unhide S0_3).sa (unhide S1_3).sa (unhide S2_3).sa).mono ?_
  rintro e w4 ⟨a0, c0, rfl, sw, b4⟩
  rw [hFF] at sw
  clear S0_3
  clear S1_3
  clear S2_3
  have B4 := hide ((unhide B3).trans (b4.mono (unhide B3).size))
  have z4 := b4.size
  have U0 := hide sw.un
  have W0_4 := hide sw.sa
  clear sw b4
  go_wp2_with fail
  refine (unhide TTA _ (unhide B4)).mono ?_
  rintro e w5 ⟨rfl, s, zz, b5⟩
  have B5 := hide ((unhide B4).trans (b5.mono (unhide B4).size))
  have z5 := b5.size
  have W0_5 := hide ((unhide W0_4).kept b5)
  clear W0_4
  have X0_5 := hide s
  have zl5 := zz
  clear s zz b5
  go_wp2_with fail
  refine (unhide TTB _ (unhide B5)).mono ?_
  rintro e w6 ⟨rfl, s, zz, b6⟩
  have B6 := hide ((unhide B5).trans (b6.mono (unhide B5).size))
  have z6 := b6.size
  have W0_6 := hide ((unhide W0_5).kept b6)
  clear W0_5
  have X0_6 := hide ((unhide X0_5).kept b6)
  clear X0_5
  have X1_6 := hide s
  have zl6 := zz
  clear s zz b6
  go_wp2_with fail
  refine (unhide TTK _ (unhide B6)).mono ?_
  rintro e w7 ⟨rfl, s, zz, b7⟩
  have B7 := hide ((unhide B6).trans (b7.mono (unhide B6).size))
  have z7 := b7.size
  have W0_7 := hide ((unhide W0_6).kept b7)
  clear W0_6
  have X0_7 := hide ((unhide X0_6).kept b7)
  clear X0_6
  have X1_7 := hide ((unhide X1_6).kept b7)
  clear X1_6
  have X2_7 := hide s
  have zl7 := zz
  clear s zz b7
  go_wp2_with fail
  refine (unhide H2 _ _ _ _ (unhide X0_7).sa (unhide X1_7).sa (unhide X2_7).sa (unhide HT _ (unhide B7))).mono ?_
  rintro e w8 ⟨a1, c1, rfl, sg, b8⟩
  rw [hFF] at sg
  have B8 := hide ((unhide B7).trans (b8.mono (unhide B7).size))
  have z8 := b8.size
  have W0_8 := hide ((unhide W0_7).kept b8)
  clear W0_7
  have X0_8 := hide ((unhide X0_7).kept b8)
  clear X0_7
  have X1_8 := hide ((unhide X1_7).kept b8)
  clear X1_7
  have X2_8 := hide ((unhide X2_7).kept b8)
  clear X2_7
  have G_8 := hide sg
  clear sg b8
  go_wp2_with fail
  refine (eqS_same _ _ M.length c1 c0 F _ (by omega) (unhide G_8).sa (unhide W0_8)).mono ?_
  rintro e w9 ⟨rfl, b9⟩
  have B9 := hide ((unhide B8).trans (b9.mono (unhide B8).size))
  have z9 := b9.size
  have W0_9 := hide ((unhide W0_8).kept b9)
  clear W0_8
  have X0_9 := hide ((unhide X0_8).kept b9)
  clear X0_8
  have X1_9 := hide ((unhide X1_8).kept b9)
  clear X1_8
  have X2_9 := hide ((unhide X2_8).kept b9)
  clear X2_8
  have G_9 := hide ((unhide G_8).kept b9)
  clear G_8
  clear b9
  go_wp2_with fail
  refine (unhide TTA _ (unhide B9)).mono ?_
  rintro e w10 ⟨rfl, s, zz, b10⟩
  have B10 := hide ((unhide B9).trans (b10.mono (unhide B9).size))
  have z10 := b10.size
  have W0_10 := hide ((unhide W0_9).kept b10)
  clear W0_9
  have X0_10 := hide ((unhide X0_9).kept b10)
  clear X0_9
  have X1_10 := hide ((unhide X1_9).kept b10)
  clear X1_9
  have X2_10 := hide ((unhide X2_9).kept b10)
  clear X2_9
  have G_10 := hide ((unhide G_9).kept b10)
  clear G_9
  clear zz b10
  have Y := hide s.sa
  clear s
  go_wp2_with fail
  refine (eqS_same _ _ A.length A.length A.length (tA A) _ (by omega) (unhide X0_10).sa (unhide Y)).mono ?_
  rintro e w11 ⟨rfl, b11⟩
  have B11 := hide ((unhide B10).trans (b11.mono (unhide B10).size))
  have z11 := b11.size
  have W0_11 := hide ((unhide W0_10).kept b11)
  clear W0_10
  have X0_11 := hide ((unhide X0_10).kept b11)
  clear X0_10
  have X1_11 := hide ((unhide X1_10).kept b11)
  clear X1_10
  have X2_11 := hide ((unhide X2_10).kept b11)
  clear X2_10
  have G_11 := hide ((unhide G_10).kept b11)
  clear G_10
  clear b11
  clear Y
  go_wp2_with fail
  refine (unhide TTB _ (unhide B11)).mono ?_
  rintro e w12 ⟨rfl, s, zz, b12⟩
  have B12 := hide ((unhide B11).trans (b12.mono (unhide B11).size))
  have z12 := b12.size
  have W0_12 := hide ((unhide W0_11).kept b12)
  clear W0_11
  have X0_12 := hide ((unhide X0_11).kept b12)
  clear X0_11
  have X1_12 := hide ((unhide X1_11).kept b12)
  clear X1_11
  have X2_12 := hide ((unhide X2_11).kept b12)
  clear X2_11
  have G_12 := hide ((unhide G_11).kept b12)
  clear G_11
  clear zz b12
  have Y := hide s.sa
  clear s
  go_wp2_with fail
  refine (eqS_same _ _ B.length B.length B.length (tA B) _ (by omega) (unhide X1_12).sa (unhide Y)).mono ?_
  rintro e w13 ⟨rfl, b13⟩
  have B13 := hide ((unhide B12).trans (b13.mono (unhide B12).size))
  have z13 := b13.size
  have W0_13 := hide ((unhide W0_12).kept b13)
  clear W0_12
  have X0_13 := hide ((unhide X0_12).kept b13)
  clear X0_12
  have X1_13 := hide ((unhide X1_12).kept b13)
  clear X1_12
  have X2_13 := hide ((unhide X2_12).kept b13)
  clear X2_12
  have G_13 := hide ((unhide G_12).kept b13)
  clear G_12
  clear b13
  clear Y
  go_wp2_with fail
  refine (unhide TTK _ (unhide B13)).mono ?_
  rintro e w14 ⟨rfl, s, zz, b14⟩
  have B14 := hide ((unhide B13).trans (b14.mono (unhide B13).size))
  have z14 := b14.size
  have W0_14 := hide ((unhide W0_13).kept b14)
  clear W0_13
  have X0_14 := hide ((unhide X0_13).kept b14)
  clear X0_13
  have X1_14 := hide ((unhide X1_13).kept b14)
  clear X1_13
  have X2_14 := hide ((unhide X2_13).kept b14)
  clear X2_13
  have G_14 := hide ((unhide G_13).kept b14)
  clear G_13
  clear zz b14
  have Y := hide s.sa
  clear s
  go_wp2_with fail
  refine (eqS_same _ _ K.length K.length K.length (tA K) _ (by omega) (unhide X2_14).sa (unhide Y)).mono ?_
  rintro e w15 ⟨rfl, b15⟩
  have B15 := hide ((unhide B14).trans (b15.mono (unhide B14).size))
  have z15 := b15.size
  have W0_15 := hide ((unhide W0_14).kept b15)
  clear W0_14
  have X0_15 := hide ((unhide X0_14).kept b15)
  clear X0_14
  have X1_15 := hide ((unhide X1_14).kept b15)
  clear X1_14
  have X2_15 := hide ((unhide X2_14).kept b15)
  clear X2_14
  have G_15 := hide ((unhide G_14).kept b15)
  clear G_14
  clear b15
  clear Y
  go_wp2_with fail
  refine (markS w4.heap.size _ A.length A.length 1 (tA A) _ (by omega) (by omega) (by omega) (by omega) (unhide X0_15)).mono ?_
  rintro e w16 ⟨rfl, sx, kx, b16⟩
  have B16 := hide ((unhide B15).trans (b16.mono (unhide B4).size))
  have z16 := kx.size
  have W0_16 : Hid (Sa w16 a0 M.length F) := by
    rcases unhide U0 with u | ⟨g, eg, u⟩
    · exact Or.inl u
    · exact (unhide W0_15).kg kx (fun b' o' g' e1 e2 _ => by
        rw [eg] at e1
        injection e1 with e1
        injection e1 with e1 _ _
        injection e2 with e2
        injection e2 with e2 _ _
        omega)
  have X1_16 := hide ((unhide X1_15).kg kx (fun b' g' e1 e2 h9 => by
    injection e2 with e2
    injection e2 with e2 _ _
    omega))
  clear X1_15
  have X2_16 := hide ((unhide X2_15).kg kx (fun b' g' e1 e2 h9 => by
    injection e2 with e2
    injection e2 with e2 _ _
    omega))
  clear X2_15
  have G_16 := hide ((unhide G_15).kg kx (fun b' g' e1 e2 h9 => by
    injection e2 with e2
    injection e2 with e2 _ _
    omega))
  clear G_15
  clear sx kx b16 W0_15 X0_15
  generalize hk0 : 1 + A.length = k0 at *
  go_wp2_with fail
  refine (markS w5.heap.size _ B.length B.length k0 (tA B) _ (by omega) (by omega) (by omega) (by omega) (unhide X1_16)).mono ?_
  rintro e w17 ⟨rfl, sx, kx, b17⟩
  have B17 := hide ((unhide B16).trans (b17.mono (unhide B5).size))
  have z17 := kx.size
  have W0_17 : Hid (Sa w17 a0 M.length F) := by
    rcases unhide U0 with u | ⟨g, eg, u⟩
    · exact Or.inl u
    · exact (unhide W0_16).kg kx (fun b' o' g' e1 e2 _ => by
        rw [eg] at e1
        injection e1 with e1
        injection e1 with e1 _ _
        injection e2 with e2
        injection e2 with e2 _ _
        omega)
  have X2_17 := hide ((unhide X2_16).kg kx (fun b' g' e1 e2 h9 => by
    injection e2 with e2
    injection e2 with e2 _ _
    omega))
  clear X2_16
  have G_17 := hide ((unhide G_16).kg kx (fun b' g' e1 e2 h9 => by
    injection e2 with e2
    injection e2 with e2 _ _
    omega))
  clear G_16
  clear sx kx b17 W0_16 X1_16
  generalize hk1 : k0 + B.length = k1 at *
  go_wp2_with fail
  refine (markS w6.heap.size _ K.length K.length k1 (tA K) _ (by omega) (by omega) (by omega) (by omega) (unhide X2_17)).mono ?_
  rintro e w18 ⟨rfl, sx, kx, b18⟩
  have B18 := hide ((unhide B17).trans (b18.mono (unhide B6).size))
  have z18 := kx.size
  have W0_18 : Hid (Sa w18 a0 M.length F) := by
    rcases unhide U0 with u | ⟨g, eg, u⟩
    · exact Or.inl u
    · exact (unhide W0_17).kg kx (fun b' o' g' e1 e2 _ => by
        rw [eg] at e1
        injection e1 with e1
        injection e1 with e1 _ _
        injection e2 with e2
        injection e2 with e2 _ _
        omega)
  have G_18 := hide ((unhide G_17).kg kx (fun b' g' e1 e2 h9 => by
    injection e2 with e2
    injection e2 with e2 _ _
    omega))
  clear G_17
  clear sx kx b18 W0_17 X2_17
  generalize hk2 : k1 + K.length = k2 at *
  have hk9 : ¬ ((k2 : Nat) : Int) < 0 := by omega
  go_wp2_with fail
  refine (eqS_same _ _ M.length c1 c0 F _ (by omega) (unhide G_18).sa (unhide W0_18)).mono ?_
  rintro e w19 ⟨rfl, b19⟩
  have B19 := hide ((unhide B18).trans (b19.mono (unhide B18).size))
  have z19 := b19.size
  have W0_19 := hide ((unhide W0_18).kept b19)
  clear W0_18
  have G_19 := hide ((unhide G_18).kept b19)
  clear G_18
  clear b19
  go_wp2_with fail
  refine (markS w7.heap.size a1 M.length c1 1 F _ (by omega) (by omega) (by omega) (by omega) (unhide G_19)).mono ?_
  rintro e w20 ⟨rfl, sg, kg, b20⟩
  have B20 := hide ((unhide B19).trans (b20.mono (unhide B7).size))
  have W0_20 : Hid (Sa w20 a0 M.length F) := by
    rcases unhide U0 with u | ⟨g, eg, u⟩
    · exact Or.inl u
    rcases sg with u | ⟨q, eq, hq⟩
    · exact Or.inl u
    · exact (unhide W0_19).kg kg (fun b' o' g' e1 e2 _ => by
        rw [eg] at e1
        rw [eq] at e2
        injection e1 with e1
        injection e1 with e1 _ _
        injection e2 with e2
        injection e2 with e2 _ _
        have := hq.ge
        omega)
  clear W0_19 G_19
  have G_20 := hide sg
  clear sg kg b20
  go_wp2_with fail
  refine (heldS a1 M.length c1 1 _ (by omega) (by omega) (by omega) (unhide G_20).sa).mono ?_
  rintro e w21 ⟨rfl, b21⟩
  have B21 := hide ((unhide B20).trans (b21.mono (unhide B20).size))
  have z21 := b21.size
  have W0_21 := hide ((unhide W0_20).kept b21)
  clear W0_20
  have G_21 := hide ((unhide G_20).kept b21)
  clear G_20
  clear b21
  generalize hq : 1 + M.length = q at *
  have hq0 : ¬ ((q : Nat) : Int) < 0 := by omega
  go_wp2_with fail
  refine (unhide TTA _ (unhide B21)).mono ?_
  rintro e w22 ⟨rfl, s, zz, b22⟩
  have B22 := hide ((unhide B21).trans (b22.mono (unhide B21).size))
  have z22 := b22.size
  have W0_22 := hide ((unhide W0_21).kept b22)
  clear W0_21
  have G_22 := hide ((unhide G_21).kept b22)
  clear G_21
  have S0_22 := hide s
  have zl22 := zz
  clear s zz b22
  go_wp2_with fail
  refine (unhide TTB _ (unhide B22)).mono ?_
  rintro e w23 ⟨rfl, s, zz, b23⟩
  have B23 := hide ((unhide B22).trans (b23.mono (unhide B22).size))
  have z23 := b23.size
  have W0_23 := hide ((unhide W0_22).kept b23)
  clear W0_22
  have G_23 := hide ((unhide G_22).kept b23)
  clear G_22
  have S0_23 := hide ((unhide S0_22).kept b23)
  clear S0_22
  have S1_23 := hide s
  have zl23 := zz
  clear s zz b23
  go_wp2_with fail
  refine (unhide TTK _ (unhide B23)).mono ?_
  rintro e w24 ⟨rfl, s, zz, b24⟩
  have B24 := hide ((unhide B23).trans (b24.mono (unhide B23).size))
  have z24 := b24.size
  have W0_24 := hide ((unhide W0_23).kept b24)
  clear W0_23
  have G_24 := hide ((unhide G_23).kept b24)
  clear G_23
  have S0_24 := hide ((unhide S0_23).kept b24)
  clear S0_23
  have S1_24 := hide ((unhide S1_23).kept b24)
  clear S1_23
  have S2_24 := hide s
  have zl24 := zz
  clear s zz b24
  go_wp2_with fail
  refine (unhide H2 _ _ _ _ (unhide S0_24).sa (unhide S1_24).sa (unhide S2_24).sa (unhide HT _ (unhide B24))).mono ?_
  rintro e w25 ⟨a2, c2, rfl, sg, b25⟩
  rw [hFF] at sg
  clear S0_24
  clear S1_24
  clear S2_24
  have B25 := hide ((unhide B24).trans (b25.mono (unhide B24).size))
  have z25 := b25.size
  have W0_25 := hide ((unhide W0_24).kept b25)
  clear W0_24
  have G_25 := hide ((unhide G_24).kept b25)
  clear G_24
  have Y := hide sg.sa
  clear sg b25
  go_wp2_with fail
  refine (eqS_same _ _ M.length c2 c0 F _ (by omega) (unhide Y) (unhide W0_25)).mono ?_
  rintro e w26 ⟨rfl, b26⟩
  have B26 := hide ((unhide B25).trans (b26.mono (unhide B25).size))
  have z26 := b26.size
  have W0_26 := hide ((unhide W0_25).kept b26)
  clear W0_25
  have G_26 := hide ((unhide G_25).kept b26)
  clear G_25
  clear b26
  go_wp2_with fail
  refine (heldS a1 M.length c1 1 _ (by omega) (by omega) (by omega) (unhide G_26).sa).mono ?_
  rintro e w27 ⟨rfl, b27⟩
  have B27 := hide ((unhide B26).trans (b27.mono (unhide B26).size))
  have z27 := b27.size
  have W0_27 := hide ((unhide W0_26).kept b27)
  clear W0_26
  have G_27 := hide ((unhide G_26).kept b27)
  clear G_26
  clear b27
  rw [hq]
  go_wp2
  go_ret
  exact ⟨rfl, (unhide B27)⟩
theorem spec_rs (A B K : List ByteArray) (hA : A.length ≤ 1048576) (zA : ∀ i, i < A.length → (tA A i).size ≤ 1048576) (hB : B.length ≤ 1048576) (zB : ∀ i, i < B.length → (tA B i).size ≤ 1048576) (hK : K.length ≤ 1048576) (zK : ∀ i, i < K.length → (tA K i).size ≤ 1048576) (a1 a2 a3 : Option Addr) (c1 c2 c3 : Nat) (W : World) (T1 : Ta W a1 A) (T2 : Ta W a2 B) (T3 : Ta W a3 K) :
    Calls Tryd.prog 20 #[.slice a1 A.length c1, .slice a2 B.length c2, .slice a3 K.length c3] W (Rs (mvM A B K) (mvB A B K) W) := by
  cases h : ((decide (0 < A.length) && glB (tA A) A.length) && (decide (0 < B.length) && glB (tA B) B.length) && decide (K.length ≤ 60)) with
  | false =>
    have hb : mvB A B K = false := by unfold mvB; rw [h]; rfl
    refine (specMvN a1 a2 a3 c1 c2 c3 A B K W hA zA hB zB hK T1 T2 h).mono ?_
    rintro e w' ⟨rfl, q⟩
    rw [hb]
    unfold mvM
    rw [hb]
    exact Rs.none q
  | true =>
    have h0 := h
    rw [Bool.and_eq_true, Bool.and_eq_true] at h
    refine (specMv a1 a2 a3 c1 c2 c3 A B K W hA zA hB zB hK zK T1 T2 T3 h.1.1 h.1.2 (of_decide_eq_true h.2)).mono ?_
    rintro e w' ⟨⟨hs, rfl⟩ | ⟨hs, v, rfl, hO⟩, q⟩
    · have hb : mvB A B K = false := by unfold mvB; rw [h0, hs]; rfl
      rw [hb]
      unfold mvM
      rw [hb]
      exact Rs.none q
    · have hb : mvB A B K = true := by unfold mvB; rw [h0, hs]; rfl
      obtain ⟨a, c, rfl, _, _, hS⟩ := hO.form
      rw [hb]
      unfold mvM
      rw [hb]
      exact ⟨a, c, rfl, hS, q⟩
theorem impl_rs (A B K : List ByteArray) (hA : A.length ≤ 1048576) (zA : ∀ i, i < A.length → (tA A i).size ≤ 1048576) (hB : B.length ≤ 1048576) (zB : ∀ i, i < B.length → (tA B i).size ≤ 1048576) (hK : K.length ≤ 1048576) (zK : ∀ i, i < K.length → (tA K i).size ≤ 1048576) (a1 a2 a3 : Option Addr) (c1 c2 c3 : Nat) (W : World) (T1 : Ta W a1 A) (T2 : Ta W a2 B) (T3 : Ta W a3 K) (hT : Rt W) :
    Calls Tryd.prog 21 #[.slice a1 A.length c1, .slice a2 B.length c2, .slice a3 K.length c3] W (Rs (mvM A B K) (mvB A B K) W) := by
  cases h : mvB A B K with
  | false =>
    refine (implMvN a1 a2 a3 c1 c2 c3 A B K W hA zA hB zB hK zK T1 T2 T3 h).mono ?_
    rintro e w' ⟨rfl, q⟩
    unfold mvM
    rw [h]
    exact Rs.none q
  | true =>
    refine (implMv a1 a2 a3 c1 c2 c3 A B K W hA zA hB zB hK zK T1 T2 T3 hT h).mono ?_
    rintro e w' ⟨v, rfl, hO, q⟩
    obtain ⟨a, c, rfl, _, _, hS⟩ := hO.form
    unfold mvM
    rw [h]
    exact ⟨a, c, rfl, hS, q⟩
theorem mvM_len (A B K : List ByteArray) : (mvM A B K).length ≤ 60 := by
  unfold mvM
  by_cases h : mvB A B K = true
  · rw [if_pos h]
    unfold mvB at h
    rw [Bool.and_eq_true, Bool.and_eq_true] at h
    have h1 := of_decide_eq_true h.1.2
    have := List.length_filter_le (mvP A B) K
    omega
  · rw [if_neg h]; exact Nat.zero_le _
set_option maxHeartbeats 1000000 in
theorem walk (a0 : Option Addr) (c0 : Nat) (A : List ByteArray) (mA : A.length ≤ maxLen) (zA : ∀ i, i < A.length → (tA A i).size ≤ maxLen) (a1 : Option Addr) (c1 : Nat) (B : List ByteArray) (mB : B.length ≤ maxLen) (zB : ∀ i, i < B.length → (tA B i).size ≤ maxLen) (a2 : Option Addr) (c2 : Nat) (K : List ByteArray) (mK : K.length ≤ maxLen) (zK : ∀ i, i < K.length → (tA K i).size ≤ maxLen) (w : World) (TA : Ta w a0 A) (TB : Ta w a1 B) (TK : Ta w a2 K) (hT : Rt w) :
    Calls Tryd.prog 6 #[.slice a0 A.length c0, .slice a1 B.length c1, .slice a2 K.length c2] w fun e w' => e = .returned (.bool true) ∧ Below w.heap.size w w' := by
  have Z1 := szS_any a0 A.length c0 (tA A) 1048576 w (by omega) mA zA TA
  have Z2 := fun (l : Nat) (hl : l ≤ 1048576) => szS_any a1 B.length c1 (tA B) l w hl mB zB TB
  have Z3 := fun (l : Nat) (hl : l ≤ 1048576) => szS_any a2 K.length c2 (tA K) l w hl mK zK TK
  by_cases hb : (A.length ≤ 1048576 ∧ ∀ i, i < A.length → (tA A i).size ≤ 1048576) ∧ (B.length ≤ 1048576 ∧ ∀ i, i < B.length → (tA B i).size ≤ 1048576) ∧ (K.length ≤ 1048576 ∧ ∀ i, i < K.length → (tA K i).size ≤ 1048576)
  · obtain ⟨⟨hA, yA⟩, ⟨hB, yB⟩, ⟨hK, yK⟩⟩ := hb
    refine walk_same a0 a1 a2 c0 c1 c2 A B K hA hB hK (mvM A B K) (mvB A B K) (by have := mvM_len A B K; omega) w TA TB TK hT (Z1.mono ?_) (fun l hl => (Z2 l hl).mono ?_) (fun l hl => (Z3 l hl).mono ?_) (fun g1 g2 g3 W q1 q2 q3 => spec_rs A B K hA yA hB yB hK yK _ _ _ _ _ _ W q1 q2 q3) (fun g1 g2 g3 W q1 q2 q3 t => impl_rs A B K hA yA hB yB hK yK _ _ _ _ _ _ W q1 q2 q3 t)
    · rintro e w' ⟨h | ⟨r, h1, h2, _, _⟩, q⟩
      · exact ⟨Or.inl h, q⟩
      · exact ⟨Or.inr ⟨r, h1, by omega⟩, q⟩
    · rintro e w' ⟨h | ⟨r, h1, h2, _, _⟩, q⟩
      · exact ⟨Or.inl h, q⟩
      · exact ⟨Or.inr ⟨r, h1, by omega⟩, q⟩
    · rintro e w' ⟨h | ⟨r, h1, h2, _, _⟩, q⟩
      · exact ⟨Or.inl h, q⟩
      · exact ⟨Or.inr ⟨r, h1, by omega⟩, q⟩
  · have HZ1 := hide Z1
    have HZ2 := hide Z2
    have HZ3 := hide Z3
    clear Z1 Z2 Z3 TA TB TK hT zA zB zK mA mB mK
    go_enter Tryd.func6, Tryd.ntmps6
    go_wp2_with fail
    refine (unhide HZ1).mono ?_
    rintro e w0 ⟨he, e0⟩
    subst w0
    rcases he with rfl | ⟨r, rfl, hr, h1, h2⟩
    · go_wp2
      go_ret
      exact ⟨rfl, Below.refl _ _⟩
    have hn1 : ¬ (r : Int) < 0 := by omega
    go_wp2_with fail
    refine (unhide HZ2 _ hr).mono ?_
    rintro e w0 ⟨he, e0⟩
    subst w0
    rcases he with rfl | ⟨r2, rfl, hr2, h3, h4⟩
    · go_wp2
      go_ret
      exact ⟨rfl, Below.refl _ _⟩
    have hn2 : ¬ (r2 : Int) < 0 := by omega
    go_wp2_with fail
    refine (unhide HZ3 _ (by omega)).mono ?_
    rintro e w0 ⟨he, e0⟩
    subst w0
    rcases he with rfl | ⟨r3, rfl, hr3, h5, h6⟩
    · go_wp2
      go_ret
      exact ⟨rfl, Below.refl _ _⟩
    · exact absurd ⟨⟨by omega, fun i hi => h2 i hi⟩, ⟨by omega, fun i hi => by have := h4 i hi; omega⟩, ⟨by omega, fun i hi => by have := h6 i hi; omega⟩⟩ hb
end Go.Proofs.YtpjmnnaiegdjmaaDoor.fnExactMovedKeys
