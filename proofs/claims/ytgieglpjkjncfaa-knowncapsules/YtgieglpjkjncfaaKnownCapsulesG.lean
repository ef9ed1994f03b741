/-
  The law on KnownCapsules, walked out of the contracts of both sides.
-/
import Derived.Test.YtgieglpjkjncfaaCpk
namespace Go.Proofs.Ytgieglpjkjncfaa.Rc
open Go.ChangeShapes Go.WideShapes Go.ChangeAt Go.RowKit Go.Deep
set_option linter.unusedVariables false
set_option maxRecDepth 100000

set_option maxHeartbeats 8000000 in
theorem knownCapsules_given (L0 : List CapsuleD) (R : List CapsuleD) (r1 : Bool) (w : World) (a0 : Option Addr) (c0 : Nat) (m0 : L0.length ≤ maxLen) (k0 : ∀ i, i < L0.length → (gt capsuleK L0 i).f1.size ≤ maxLen) (h0 : Rd capsuleK w a0 L0) (hR : R.length ≤ 1048576)
    (HS : L0.length ≤ 1048576 → (∀ i, i < L0.length → (gt capsuleK L0 i).f1.size ≤ 1048576) → ∀ (W : World) (a0 : Option Addr) (c0 : Nat) (_ : Rd capsuleK W a0 L0), Calls Try.prog 13 #[.slice a0 L0.length c0] W fun e w' => ∃ (a : Option Addr) (c : Nat), e = .returned (.tuple #[.slice a R.length c, .bool r1]) ∧ Rd capsuleK w' a R ∧ Below W.heap.size W w')
    (HI : L0.length ≤ 1048576 → (∀ i, i < L0.length → (gt capsuleK L0 i).f1.size ≤ 1048576) → ∀ (W : World) (a0 : Option Addr) (c0 : Nat) (_ : Rd capsuleK W a0 L0), Calls Try.prog 15 #[.slice a0 L0.length c0] W fun e w' => ∃ (a : Option Addr) (c : Nat), e = .returned (.tuple #[.slice a R.length c, .bool r1]) ∧ Ri capsuleK W.heap.size w'.heap.size w' a R ∧ Below W.heap.size W w') :
    Calls Try.prog 4 #[.slice a0 L0.length c0] w fun e w' => e = .returned (.bool true) ∧ Below w.heap.size w w' := by
  have H1 := hide HS
  have H2 := hide HI
  clear HS HI
  have HT0 := hide (fun (hm : L0.length ≤ 1048576) W (b : Below w.heap.size w W) => toCapsuleS_any a0 c0 L0 W hm (h0.below b))
  have HE0 := hide (fun a a' c c' W (hm : L0.length ≤ 1048576) h h' => eqCapsuleS_same a a' c c' L0 W hm h h')
  have HG := hide (fun a a' c c' W h h' => eqCapsuleS_same a a' c c' R W hR h h')
  have HX0 := hide h0
  clear h0
  go_enter Try.func4, Try.ntmps4
  go_wp2_with fail
  refine (szCapsuleS_any a0 c0 1048576 L0 _ m0 k0 (Nat.le_refl _) (unhide HX0)).mono ?_
  rintro e wz ⟨hz0, h9⟩
  rcases hz0 with rfl | ⟨z0, rfl, hz0⟩
  · go_wp2
    go_ret
    exact ⟨rfl, h9⟩
  have hy0 : ¬ (z0 : Int) < 0 := by omega
  have hM0 := hide (show L0.length ≤ 1048576 by omega)
  have hO0 := hide (show (∀ i, i < L0.length → (gt capsuleK L0 i).f1.size ≤ 1048576) from fun i hi => by
    have h9 := capsuleW_mem (gt_mem capsuleK L0 i hi)
    unfold capsuleT at h9
    omega)
  have B0 := hide h9
  have s0 : _ ≤ wz.heap.size := h9.size
  clear h9
  go_wp2_with fail
  refine (unhide HT0 (unhide hM0) _ (unhide B0)).mono ?_
  rintro e w1 ⟨g0_1, rfl, i1, b1⟩
  have B1 := hide ((unhide B0).trans (b1.mono (unhide B0).size))
  have T0_1 := hide (Ri.rd i1)
  have s1 : _ ≤ w1.heap.size := b1.size
  clear i1
  go_wp2_with fail
  refine (unhide H1 (unhide hM0) (unhide hO0) _ _ _ (unhide T0_1)).mono ?_
  rintro e w2 ⟨aw, cw, rfl, q2, b2⟩
  have B2 := hide ((unhide B1).trans (b2.mono (unhide B1).size))
  have T0_2 := hide ((unhide T0_1).below b2)
  have s2 : _ ≤ w2.heap.size := b2.size
  have WR := hide q2
  clear q2
  have B3_2 := hide (Below.refl w2.heap.size w2)
  go_wp2_with fail
  refine (unhide HT0 (unhide hM0) _ (unhide B2)).mono ?_
  rintro e w3 ⟨x0, rfl, i3, b3⟩
  have B3 := hide ((unhide B2).trans (b3.mono (unhide B2).size))
  have B3_3 := hide ((unhide B3_2).trans (b3.mono (unhide B3_2).size))
  have X0_3 := hide i3
  have s3 : _ ≤ w3.heap.size := b3.size
  clear i3
  go_wp2_with fail
  refine (unhide H2 (unhide hM0) (unhide hO0) _ _ _ (Ri.rd (unhide X0_3))).mono ?_
  rintro e w4 ⟨ag, cg, rfl, q4, b4⟩
  have B4 := hide ((unhide B3).trans (b4.mono (unhide B3).size))
  have B3_4 := hide ((unhide B3_3).trans (b4.mono (unhide B3_3).size))
  have X0_4 := hide ((unhide X0_3).below b4)
  have GR_4 := hide q4
  have s4 : _ ≤ w4.heap.size := b4.size
  clear q4
  go_wp2_with fail
  refine (unhide HG _ _ _ _ _ (Ri.rd (unhide GR_4)) (Rd.below (unhide WR) (unhide B3_4))).mono ?_
  rintro e w5 ⟨rfl, b5⟩
  have B5 := hide ((unhide B4).trans (b5.mono (unhide B4).size))
  have B3_5 := hide ((unhide B3_4).trans (b5.mono (unhide B3_4).size))
  have X0_5 := hide ((unhide X0_4).below b5)
  have GR_5 := hide ((unhide GR_4).below b5)
  have s5 : _ ≤ w5.heap.size := b5.size
  go_wp2_with fail
  refine (unhide HT0 (unhide hM0) _ (unhide B5)).mono ?_
  rintro e w6 ⟨t0, rfl, i6, b6⟩
  have B6 := hide ((unhide B5).trans (b6.mono (unhide B5).size))
  have B3_6 := hide ((unhide B3_5).trans (b6.mono (unhide B3_5).size))
  have X0_6 := hide ((unhide X0_5).below b6)
  have GR_6 := hide ((unhide GR_5).below b6)
  have T0_6 := hide (Ri.rd i6)
  have s6 : _ ≤ w6.heap.size := b6.size
  clear i6
  go_wp2_with fail
  refine (unhide HE0 _ _ _ _ _ (unhide hM0) (Ri.rd (unhide X0_6)) (unhide T0_6)).mono ?_
  rintro e w7 ⟨rfl, b7⟩
  have B7 := hide ((unhide B6).trans (b7.mono (unhide B6).size))
  have B3_7 := hide ((unhide B3_6).trans (b7.mono (unhide B3_6).size))
  have X0_7 := hide ((unhide X0_6).below b7)
  have GR_7 := hide ((unhide GR_6).below b7)
  have T0_7 := hide ((unhide T0_6).below b7)
  have s7 : _ ≤ w7.heap.size := b7.size
  have hR1 := hR
  have hl0 := unhide hM0
  have MK8 := hide (markCapsuleS_any w2.heap.size w3.heap.size (some ⟨x0, 0, none⟩) L0.length L0 1 w7 (by omega) (by omega) (by omega) (unhide X0_7))
  have hb8 : 1 + L0.length * 2 ≤ 20000000 := by omega
  generalize 1 + L0.length * 2 = k8 at *
  have hn8 : ¬ (k8 : Int) < 0 := by omega
  go_wp2_with fail
  refine (unhide MK8).mono ?_
  rintro e w8 ⟨rfl, m8, q8⟩
  clear MK8
  have s8 : w7.heap.size ≤ w8.heap.size := q8.size
  have B8 := hide ((unhide B7).trans (q8.below (unhide B7).size (fun q hq => by omega)))
  have B3_8 := hide ((unhide B3_7).trans (q8.below (unhide B3_7).size (fun q hq => by omega)))
  have GR_8 := hide ((unhide GR_7).kq q8 (fun q hq => by omega))
  clear m8 q8
  go_wp2_with fail
  refine (unhide HG _ _ _ _ _ (Ri.rd (unhide GR_8)) (Rd.below (unhide WR) (unhide B3_8))).mono ?_
  rintro e w9 ⟨rfl, b9⟩
  have B9 := hide ((unhide B8).trans (b9.mono (unhide B8).size))
  have B3_9 := hide ((unhide B3_8).trans (b9.mono (unhide B3_8).size))
  have GR_9 := hide ((unhide GR_8).below b9)
  have s9 : _ ≤ w9.heap.size := b9.size
  have MK10 := hide (markCapsuleS_any w3.heap.size w4.heap.size ag cg R 1 w9 (by omega) (by omega) (by omega) (unhide GR_9))
  have hb10 : 1 + R.length * 2 ≤ 40000000 := by omega
  have HH := hide (fun W h => heldCapsuleS_any w3.heap.size w4.heap.size ag R.length cg 1 W hR (by omega) (by omega) h)
  generalize 1 + R.length * 2 = k10 at *
  have hn10 : ¬ (k10 : Int) < 0 := by omega
  go_wp2_with fail
  refine (unhide MK10).mono ?_
  rintro e w10 ⟨rfl, m10, q10⟩
  clear MK10
  have s10 : w9.heap.size ≤ w10.heap.size := q10.size
  have B10 := hide ((unhide B9).trans (q10.below (unhide B9).size (fun q hq => by omega)))
  have B3_10 := hide ((unhide B3_9).trans (q10.below (unhide B3_9).size (fun q hq => by omega)))
  have GM_10 := hide m10
  clear m10 q10
  go_wp2_with fail
  refine (unhide HH _ (unhide GM_10)).mono ?_
  rintro e w11 ⟨rfl, b11⟩
  have B11 := hide ((unhide B10).trans (b11.mono (unhide B10).size))
  have B3_11 := hide ((unhide B3_10).trans (b11.mono (unhide B3_10).size))
  have GM_11 := hide ((unhide GM_10).below b11)
  have s11 : _ ≤ w11.heap.size := b11.size
  go_wp2_with fail
  refine (unhide HT0 (unhide hM0) _ (unhide B11)).mono ?_
  rintro e w12 ⟨t0_, rfl, i12, b12⟩
  have B12 := hide ((unhide B11).trans (b12.mono (unhide B11).size))
  have B3_12 := hide ((unhide B3_11).trans (b12.mono (unhide B3_11).size))
  have GM_12 := hide ((unhide GM_11).below b12)
  have T0_12 := hide (Ri.rd i12)
  have s12 : _ ≤ w12.heap.size := b12.size
  clear i12
  go_wp2_with fail
  refine (unhide H2 (unhide hM0) (unhide hO0) _ _ _ (unhide T0_12)).mono ?_
  rintro e w13 ⟨ah, ch, rfl, q13, b13⟩
  have B13 := hide ((unhide B12).trans (b13.mono (unhide B12).size))
  have B3_13 := hide ((unhide B3_12).trans (b13.mono (unhide B3_12).size))
  have GM_13 := hide ((unhide GM_12).below b13)
  have T0_13 := hide ((unhide T0_12).below b13)
  have HR_13 := hide (Ri.rd q13)
  have s13 : _ ≤ w13.heap.size := b13.size
  clear q13
  go_wp2_with fail
  refine (unhide HG _ _ _ _ _ ((unhide HR_13)) (Rd.below (unhide WR) (unhide B3_13))).mono ?_
  rintro e w14 ⟨rfl, b14⟩
  have B14 := hide ((unhide B13).trans (b14.mono (unhide B13).size))
  have B3_14 := hide ((unhide B3_13).trans (b14.mono (unhide B3_13).size))
  have GM_14 := hide ((unhide GM_13).below b14)
  have HR_14 := hide ((unhide HR_13).below b14)
  have s14 : _ ≤ w14.heap.size := b14.size
  go_wp2_with fail
  refine (unhide HH _ (unhide GM_14)).mono ?_
  rintro e w15 ⟨rfl, b15⟩
  have B15 := hide ((unhide B14).trans (b15.mono (unhide B14).size))
  have B3_15 := hide ((unhide B3_14).trans (b15.mono (unhide B3_14).size))
  have GM_15 := hide ((unhide GM_14).below b15)
  have s15 : _ ≤ w15.heap.size := b15.size
  go_wp2
  go_ret
  exact ⟨rfl, unhide B15⟩
end Go.Proofs.Ytgieglpjkjncfaa.Rc
