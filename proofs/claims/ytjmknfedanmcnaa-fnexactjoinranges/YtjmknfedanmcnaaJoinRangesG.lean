/-
  The law on JoinRanges, walked out of the contracts of both sides.
-/
import Derived.Test.YtjmknfedanmcnaaRgb
namespace Go.Proofs.Ytjmknfedanmcnaa.Rc
open Go.ChangeShapes Go.WideShapes Go.ChangeAt Go.RowKit Go.Deep
set_option linter.unusedVariables false
set_option maxRecDepth 100000

set_option maxHeartbeats 8000000 in
theorem joinRanges_given (L0 : List RangeD) (L1 : List RangeD) (R : List RangeD) (r1 : Bool) (w : World) (a0 : Option Addr) (c0 : Nat) (m0 : L0.length ≤ maxLen) (h0 : Rd rangeK w a0 L0) (a1 : Option Addr) (c1 : Nat) (m1 : L1.length ≤ maxLen) (h1 : Rd rangeK w a1 L1) (hR : R.length ≤ 1048576)
    (HS : L0.length ≤ 1048576 → L1.length ≤ 1048576 → ∀ (W : World) (a0 : Option Addr) (c0 : Nat) (a1 : Option Addr) (c1 : Nat) (_ : Rd rangeK W a0 L0) (_ : Rd rangeK W a1 L1), Calls Try.prog 18 #[.slice a0 L0.length c0, .slice a1 L1.length c1] W fun e w' => ∃ (a : Option Addr) (c : Nat), e = .returned (.tuple #[.slice a R.length c, .bool r1]) ∧ Rd rangeK w' a R ∧ Below W.heap.size W w')
    (HI : L0.length ≤ 1048576 → L1.length ≤ 1048576 → ∀ (W : World) (a0 : Option Addr) (c0 : Nat) (a1 : Option Addr) (c1 : Nat) (_ : Rd rangeK W a0 L0) (_ : Rd rangeK W a1 L1), Calls Try.prog 19 #[.slice a0 L0.length c0, .slice a1 L1.length c1] W fun e w' => ∃ (a : Option Addr) (c : Nat), e = .returned (.tuple #[.slice a R.length c, .bool r1]) ∧ Ri rangeK W.heap.size w'.heap.size w' a R ∧ Below W.heap.size W w') :
    Calls Try.prog 5 #[.slice a0 L0.length c0, .slice a1 L1.length c1] w fun e w' => e = .returned (.bool true) ∧ Below w.heap.size w w' := by
  have H1 := hide HS
  have H2 := hide HI
  clear HS HI
  have HT0 := hide (fun (hm : L0.length ≤ 1048576) W (b : Below w.heap.size w W) => toRangeS_any a0 c0 L0 W hm (h0.below b))
  have HE0 := hide (fun a a' c c' W (hm : L0.length ≤ 1048576) h h' => eqRangeS_same a a' c c' L0 W hm h h')
  have HT1 := hide (fun (hm : L1.length ≤ 1048576) W (b : Below w.heap.size w W) => toRangeS_any a1 c1 L1 W hm (h1.below b))
  have HE1 := hide (fun a a' c c' W (hm : L1.length ≤ 1048576) h h' => eqRangeS_same a a' c c' L1 W hm h h')
  have HG := hide (fun a a' c c' W h h' => eqRangeS_same a a' c c' R W hR h h')
  clear h0 h1
  go_enter Try.func5, Try.ntmps5
  go_wp2_with fail
  refine (szRangeS_any a0 L0.length c0 1048576 _ m0 (Nat.le_refl _)).mono ?_
  rintro e w9 ⟨hz0, h9⟩
  rw [h9]
  clear h9 w9
  rcases hz0 with rfl | ⟨z0, rfl, hz0, hm0⟩
  · go_wp2
    go_ret
    exact ⟨rfl, Below.refl _ _⟩
  have hy0 : ¬ (z0 : Int) < 0 := by omega
  go_wp2_with fail
  refine (szRangeS_any a1 L1.length c1 z0 _ m1 (by omega)).mono ?_
  rintro e w9 ⟨hz1, h9⟩
  rw [h9]
  clear h9 w9
  rcases hz1 with rfl | ⟨z1, rfl, hz1, hm1⟩
  · go_wp2
    go_ret
    exact ⟨rfl, Below.refl _ _⟩
  have hy1 : ¬ (z1 : Int) < 0 := by omega
  have hM0 := hide (show L0.length ≤ 1048576 by omega)
  have hM1 := hide (show L1.length ≤ 1048576 by omega)
  have B0 := hide (Below.refl w.heap.size w)
  go_wp2_with fail
  refine (unhide HT0 (unhide hM0) _ (unhide B0)).mono ?_
  rintro e w1 ⟨g0_1, rfl, i1, b1⟩
  have B1 := hide ((unhide B0).trans (b1.mono (unhide B0).size))
  have T0_1 := hide (Ri.rd i1)
  have s1 : _ ≤ w1.heap.size := b1.size
  clear i1
  go_wp2_with fail
  refine (unhide HT1 (unhide hM1) _ (unhide B1)).mono ?_
  rintro e w2 ⟨g1_2, rfl, i2, b2⟩
  have B2 := hide ((unhide B1).trans (b2.mono (unhide B1).size))
  have T0_2 := hide ((unhide T0_1).below b2)
  have T1_2 := hide (Ri.rd i2)
  have s2 : _ ≤ w2.heap.size := b2.size
  clear i2
  go_wp2_with fail
  refine (unhide H1 (unhide hM0) (unhide hM1) _ _ _ _ _ (unhide T0_2) (unhide T1_2)).mono ?_
  rintro e w3 ⟨aw, cw, rfl, q3, b3⟩
  have B3 := hide ((unhide B2).trans (b3.mono (unhide B2).size))
  have T0_3 := hide ((unhide T0_2).below b3)
  have T1_3 := hide ((unhide T1_2).below b3)
  have s3 : _ ≤ w3.heap.size := b3.size
  have WR := hide q3
  clear q3
  have B3_3 := hide (Below.refl w3.heap.size w3)
  go_wp2_with fail
  refine (unhide HT0 (unhide hM0) _ (unhide B3)).mono ?_
  rintro e w4 ⟨x0, rfl, i4, b4⟩
  have B4 := hide ((unhide B3).trans (b4.mono (unhide B3).size))
  have B3_4 := hide ((unhide B3_3).trans (b4.mono (unhide B3_3).size))
  have X0_4 := hide i4
  have s4 : _ ≤ w4.heap.size := b4.size
  clear i4
  go_wp2_with fail
  refine (unhide HT1 (unhide hM1) _ (unhide B4)).mono ?_
  rintro e w5 ⟨x1, rfl, i5, b5⟩
  have B5 := hide ((unhide B4).trans (b5.mono (unhide B4).size))
  have B3_5 := hide ((unhide B3_4).trans (b5.mono (unhide B3_4).size))
  have X0_5 := hide ((unhide X0_4).below b5)
  have X1_5 := hide i5
  have s5 : _ ≤ w5.heap.size := b5.size
  clear i5
  go_wp2_with fail
  refine (unhide H2 (unhide hM0) (unhide hM1) _ _ _ _ _ (Ri.rd (unhide X0_5)) (Ri.rd (unhide X1_5))).mono ?_
  rintro e w6 ⟨ag, cg, rfl, q6, b6⟩
  have B6 := hide ((unhide B5).trans (b6.mono (unhide B5).size))
  have B3_6 := hide ((unhide B3_5).trans (b6.mono (unhide B3_5).size))
  have X0_6 := hide ((unhide X0_5).below b6)
  have X1_6 := hide ((unhide X1_5).below b6)
  have GR_6 := hide q6
  have s6 : _ ≤ w6.heap.size := b6.size
  clear q6
  go_wp2_with fail
  refine (unhide HG _ _ _ _ _ (Ri.rd (unhide GR_6)) (Rd.below (unhide WR) (unhide B3_6))).mono ?_
  rintro e w7 ⟨rfl, b7⟩
  have B7 := hide ((unhide B6).trans (b7.mono (unhide B6).size))
  have B3_7 := hide ((unhide B3_6).trans (b7.mono (unhide B3_6).size))
  have X0_7 := hide ((unhide X0_6).below b7)
  have X1_7 := hide ((unhide X1_6).below b7)
  have GR_7 := hide ((unhide GR_6).below b7)
  have s7 : _ ≤ w7.heap.size := b7.size
  go_wp2_with fail
  refine (unhide HT0 (unhide hM0) _ (unhide B7)).mono ?_
  rintro e w8 ⟨t0, rfl, i8, b8⟩
  have B8 := hide ((unhide B7).trans (b8.mono (unhide B7).size))
  have B3_8 := hide ((unhide B3_7).trans (b8.mono (unhide B3_7).size))
  have X0_8 := hide ((unhide X0_7).below b8)
  have X1_8 := hide ((unhide X1_7).below b8)
  have GR_8 := hide ((unhide GR_7).below b8)
  have T0_8 := hide (Ri.rd i8)
  have s8 : _ ≤ w8.heap.size := b8.size
  clear i8
  go_wp2_with fail
  refine (unhide HE0 _ _ _ _ _ (unhide hM0) (Ri.rd (unhide X0_8)) (unhide T0_8)).mono ?_
  rintro e w9 ⟨rfl, b9⟩
  have B9 := hide ((unhide B8).trans (b9.mono (unhide B8).size))
  have B3_9 := hide ((unhide B3_8).trans (b9.mono (unhide B3_8).size))
  have X0_9 := hide ((unhide X0_8).below b9)
  have X1_9 := hide ((unhide X1_8).below b9)
  have GR_9 := hide ((unhide GR_8).below b9)
  have T0_9 := hide ((unhide T0_8).below b9)
  have s9 : _ ≤ w9.heap.size := b9.size
  go_wp2_with fail
  refine (unhide HT1 (unhide hM1) _ (unhide B9)).mono ?_
  rintro e w10 ⟨t1, rfl, i10, b10⟩
  have B10 := hide ((unhide B9).trans (b10.mono (unhide B9).size))
  have B3_10 := hide ((unhide B3_9).trans (b10.mono (unhide B3_9).size))
  have X0_10 := hide ((unhide X0_9).below b10)
  have X1_10 := hide ((unhide X1_9).below b10)
  have GR_10 := hide ((unhide GR_9).below b10)
  have T1_10 := hide (Ri.rd i10)
  have s10 : _ ≤ w10.heap.size := b10.size
  clear i10
  go_wp2_with fail
  refine (unhide HE1 _ _ _ _ _ (unhide hM1) (Ri.rd (unhide X1_10)) (unhide T1_10)).mono ?_
  rintro e w11 ⟨rfl, b11⟩
  have B11 := hide ((unhide B10).trans (b11.mono (unhide B10).size))
  have B3_11 := hide ((unhide B3_10).trans (b11.mono (unhide B3_10).size))
  have X0_11 := hide ((unhide X0_10).below b11)
  have X1_11 := hide ((unhide X1_10).below b11)
  have GR_11 := hide ((unhide GR_10).below b11)
  have T1_11 := hide ((unhide T1_10).below b11)
  have s11 : _ ≤ w11.heap.size := b11.size
  have hR1 := hR
  have hl0 := unhide hM0
  have hl1 := unhide hM1
  have MK12 := hide (markRangeS_any w3.heap.size w4.heap.size (some ⟨x0, 0, none⟩) L0.length L0 1 w11 (by omega) (by omega) (unhide X0_11))
  have hb12 : 1 + L0.length * 2 ≤ 20000000 := by omega
  generalize 1 + L0.length * 2 = k12 at *
  have hn12 : ¬ (k12 : Int) < 0 := by omega
  go_wp2_with fail
  refine (unhide MK12).mono ?_
  rintro e w12 ⟨rfl, m12, q12⟩
  clear MK12
  have s12 : w11.heap.size ≤ w12.heap.size := q12.size
  have B12 := hide ((unhide B11).trans (q12.below (unhide B11).size (fun q hq => by omega)))
  have B3_12 := hide ((unhide B3_11).trans (q12.below (unhide B3_11).size (fun q hq => by omega)))
  have X1_12 := hide ((unhide X1_11).kq q12 (fun q hq => by omega))
  have GR_12 := hide ((unhide GR_11).kq q12 (fun q hq => by omega))
  clear m12 q12
  have MK13 := hide (markRangeS_any w4.heap.size w5.heap.size (some ⟨x1, 0, none⟩) L1.length L1 k12 w12 (by omega) (by omega) (unhide X1_12))
  have hb13 : k12 + L1.length * 2 ≤ 40000000 := by omega
  generalize k12 + L1.length * 2 = k13 at *
  have hn13 : ¬ (k13 : Int) < 0 := by omega
  go_wp2_with fail
  refine (unhide MK13).mono ?_
  rintro e w13 ⟨rfl, m13, q13⟩
  clear MK13
  have s13 : w12.heap.size ≤ w13.heap.size := q13.size
  have B13 := hide ((unhide B12).trans (q13.below (unhide B12).size (fun q hq => by omega)))
  have B3_13 := hide ((unhide B3_12).trans (q13.below (unhide B3_12).size (fun q hq => by omega)))
  have GR_13 := hide ((unhide GR_12).kq q13 (fun q hq => by omega))
  clear m13 q13
  go_wp2_with fail
  refine (unhide HG _ _ _ _ _ (Ri.rd (unhide GR_13)) (Rd.below (unhide WR) (unhide B3_13))).mono ?_
  rintro e w14 ⟨rfl, b14⟩
  have B14 := hide ((unhide B13).trans (b14.mono (unhide B13).size))
  have B3_14 := hide ((unhide B3_13).trans (b14.mono (unhide B3_13).size))
  have GR_14 := hide ((unhide GR_13).below b14)
  have s14 : _ ≤ w14.heap.size := b14.size
  have MK15 := hide (markRangeS_any w5.heap.size w6.heap.size ag cg R 1 w14 (by omega) (by omega) (unhide GR_14))
  have hb15 : 1 + R.length * 2 ≤ 60000000 := by omega
  have HH := hide (fun W h => heldRangeS_any w5.heap.size w6.heap.size ag R.length cg 1 W hR (by omega) h)
  generalize 1 + R.length * 2 = k15 at *
  have hn15 : ¬ (k15 : Int) < 0 := by omega
  go_wp2_with fail
  refine (unhide MK15).mono ?_
  rintro e w15 ⟨rfl, m15, q15⟩
  clear MK15
  have s15 : w14.heap.size ≤ w15.heap.size := q15.size
  have B15 := hide ((unhide B14).trans (q15.below (unhide B14).size (fun q hq => by omega)))
  have B3_15 := hide ((unhide B3_14).trans (q15.below (unhide B3_14).size (fun q hq => by omega)))
  have GM_15 := hide m15
  clear m15 q15
  go_wp2_with fail
  refine (unhide HH _ (unhide GM_15)).mono ?_
  rintro e w16 ⟨rfl, b16⟩
  have B16 := hide ((unhide B15).trans (b16.mono (unhide B15).size))
  have B3_16 := hide ((unhide B3_15).trans (b16.mono (unhide B3_15).size))
  have GM_16 := hide ((unhide GM_15).below b16)
  have s16 : _ ≤ w16.heap.size := b16.size
  go_wp2_with fail
  refine (unhide HT0 (unhide hM0) _ (unhide B16)).mono ?_
  rintro e w17 ⟨t0_, rfl, i17, b17⟩
  have B17 := hide ((unhide B16).trans (b17.mono (unhide B16).size))
  have B3_17 := hide ((unhide B3_16).trans (b17.mono (unhide B3_16).size))
  have GM_17 := hide ((unhide GM_16).below b17)
  have T0_17 := hide (Ri.rd i17)
  have s17 : _ ≤ w17.heap.size := b17.size
  clear i17
  go_wp2_with fail
  refine (unhide HT1 (unhide hM1) _ (unhide B17)).mono ?_
  rintro e w18 ⟨t1_, rfl, i18, b18⟩
  have B18 := hide ((unhide B17).trans (b18.mono (unhide B17).size))
  have B3_18 := hide ((unhide B3_17).trans (b18.mono (unhide B3_17).size))
  have GM_18 := hide ((unhide GM_17).below b18)
  have T0_18 := hide ((unhide T0_17).below b18)
  have T1_18 := hide (Ri.rd i18)
  have s18 : _ ≤ w18.heap.size := b18.size
  clear i18
  go_wp2_with fail
  refine (unhide H2 (unhide hM0) (unhide hM1) _ _ _ _ _ (unhide T0_18) (unhide T1_18)).mono ?_
  rintro e w19 ⟨ah, ch, rfl, q19, b19⟩
  have B19 := hide ((unhide B18).trans (b19.mono (unhide B18).size))
  have B3_19 := hide ((unhide B3_18).trans (b19.mono (unhide B3_18).size))
  have GM_19 := hide ((unhide GM_18).below b19)
  have T0_19 := hide ((unhide T0_18).below b19)
  have T1_19 := hide ((unhide T1_18).below b19)
  have HR_19 := hide (Ri.rd q19)
  have s19 : _ ≤ w19.heap.size := b19.size
  clear q19
  go_wp2_with fail
  refine (unhide HG _ _ _ _ _ ((unhide HR_19)) (Rd.below (unhide WR) (unhide B3_19))).mono ?_
  rintro e w20 ⟨rfl, b20⟩
  have B20 := hide ((unhide B19).trans (b20.mono (unhide B19).size))
  have B3_20 := hide ((unhide B3_19).trans (b20.mono (unhide B3_19).size))
  have GM_20 := hide ((unhide GM_19).below b20)
  have HR_20 := hide ((unhide HR_19).below b20)
  have s20 : _ ≤ w20.heap.size := b20.size
  go_wp2_with fail
  refine (unhide HH _ (unhide GM_20)).mono ?_
  rintro e w21 ⟨rfl, b21⟩
  have B21 := hide ((unhide B20).trans (b21.mono (unhide B20).size))
  have B3_21 := hide ((unhide B3_20).trans (b21.mono (unhide B3_20).size))
  have GM_21 := hide ((unhide GM_20).below b21)
  have s21 : _ ≤ w21.heap.size := b21.size
  go_wp2
  go_ret
  exact ⟨rfl, unhide B21⟩
end Go.Proofs.Ytjmknfedanmcnaa.Rc
