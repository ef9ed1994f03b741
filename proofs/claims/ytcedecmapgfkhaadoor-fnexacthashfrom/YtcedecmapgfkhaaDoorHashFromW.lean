/-
  The law on HashFrom, walked.
-/
import Derived.Test.YtcedecmapgfkhaaDoorLrn
import Derived.Test.YtcedecmapgfkhaaDoorIhf
namespace Go.Proofs.YtcedecmapgfkhaaDoor.fnExactHashFrom
open Go.ChangeShapes Go.WideShapes Go.ChangeAt Go.RowKit
set_option linter.unusedVariables false

set_option maxHeartbeats 2000000 in
theorem walk_ok (a : Option Addr) (cap : Nat) (f : Nat → Nat) (t : ByteArray) (hf : ∀ i, f i < 4294967296) (ht : t.size = 64) (w : World) (hT : Rt w) (hU : Ua w a 8 f) :
    Calls Tryd.prog 8 #[.slice a 8 cap, .string t] w fun e w' => e = .returned (.bool true) ∧ Below w.heap.size w w' := by
  have HT := hide hT
  have HU := hide hU
  clear hT hU
  have l0 : 0 < w.heap.size := (unhide HT).lt
  have hM : Hid (∀ b cap f W, Aw W b 0 8 f → Calls Tryd.prog 26 #[.slice (some ⟨b, 0, none⟩) 8 cap, .int .i64 1] W fun e w' => e = .returned (.int .i64 9) ∧ Aw w' b 0 8 (mk1 1) ∧ Kb b W w') := fun b cap f W h => markU b 8 cap 1 f W (by omega) (by omega) h
  have hH : Hid (∀ b cap W, Rw W b 0 8 (mk1 1) → Calls Tryd.prog 27 #[.slice (some ⟨b, 0, none⟩) 8 cap, .int .i64 1] W fun e w' => e = .returned (.int .i64 9) ∧ Below W.heap.size W w') := fun b cap W h => heldU b 8 cap 1 W (by omega) (by omega) h
  go_enter Tryd.func8, Tryd.ntmps8
  go_wp2_with fail
  refine (toU_any a 8 cap f _ (by omega) (unhide HU)).mono ?_
  rintro e w1 ⟨rfl, hA, b1⟩
  have X1 := hide hA.r
  have B1 := hide b1
  have s1 := b1.size
  clear hA b1
  go_wp2_with fail
  refine (specHF_ok _ 0 8 f t hf ht _ (unhide X1)).mono ?_
  rintro e w2 ⟨gw, cw, rfl, hgw, hA, b2⟩
  have K2 := hide hA.r
  have B2 := hide ((unhide B1).trans (b2.mono s1))
  have s2 := (unhide B2).size
  have lw := hA.lt
  clear hA b2 X1 B1
  go_wp2_with fail
  refine (toU_any a 8 cap f _ (by omega) ((unhide HU).kept (B := 0) (unhide B2))).mono ?_
  rintro e w3 ⟨rfl, hA, b3⟩
  have X3 := hide hA
  have K3 := hide ((unhide K2).kept b3)
  have B3 := hide ((unhide B2).trans (b3.mono s2))
  have T3 := hide ((unhide HT).kept (unhide B3))
  have s3 := (unhide B3).size
  have lx := hA.lt
  have hxw : w2.heap.size ≠ gw := by omega
  have hx0 : w.heap.size ≤ w2.heap.size := s2
  generalize w2.heap.size = gx at *
  clear hA b3 K2 B2
  go_wp2_with fail
  refine (implHF_ok gx 0 8 f t hf ht _ (unhide T3) (unhide X3).r).mono ?_
  rintro e w4 ⟨gi, rfl, hgi, hA, b4⟩
  have I4 := hide hA
  have X4 := hide ((unhide X3).below b4 (unhide X3).lt)
  have K4 := hide ((unhide K3).kept b4)
  have B4 := hide ((unhide B3).trans (b4.mono s3))
  have s4 := (unhide B4).size
  have hgi0 : w.heap.size ≤ gi := by omega
  have hiw : gi ≠ gw := by have := (unhide K3).lt; omega
  have hix : gi ≠ gx := by omega
  clear hA b4 X3 K3 B3 T3
  generalize hr : bhW f t = r at *
  go_wp2_with fail
  refine (eqU_same _ 0 8 _ _ 0 _ r _ (by omega) (unhide I4).r (unhide K4)).mono ?_
  rintro e w5 ⟨rfl, b5⟩
  have I5 := hide ((unhide I4).below b5 (unhide I4).lt)
  have X5 := hide ((unhide X4).below b5 (unhide X4).lt)
  have K5 := hide ((unhide K4).kept b5)
  have B5 := hide ((unhide B4).trans (b5.mono s4))
  have s5 := (unhide B5).size
  clear b5 I4 X4 K4 B4
  go_wp2_with fail
  refine (toU_any a 8 cap f _ (by omega) ((unhide HU).kept (B := 0) (unhide B5))).mono ?_
  rintro e w6 ⟨rfl, hA, b6⟩
  have C6 := hide hA.r
  have I6 := hide ((unhide I5).below b6 (unhide I5).lt)
  have X6 := hide ((unhide X5).below b6 (unhide X5).lt)
  have K6 := hide ((unhide K5).kept b6)
  have B6 := hide ((unhide B5).trans (b6.mono s5))
  have s6 := (unhide B6).size
  clear hA b6 I5 X5 K5 B5
  go_wp2_with fail
  refine (eqU_same _ 0 8 _ _ 0 _ f _ (by omega) (unhide X6).r (unhide C6)).mono ?_
  rintro e w7 ⟨rfl, b7⟩
  have I7 := hide ((unhide I6).below b7 (unhide I6).lt)
  have X7 := hide ((unhide X6).below b7 (unhide X6).lt)
  have K7 := hide ((unhide K6).kept b7)
  have B7 := hide ((unhide B6).trans (b7.mono s6))
  have s7 := (unhide B7).size
  clear b7 C6 I6 X6 K6 B6
  go_wp2_with fail
  refine (unhide hM _ _ _ _ (unhide X7)).mono ?_
  rintro e w8 ⟨rfl, hA, k8⟩
  have I8 := hide (k8.aw (unhide I7) hix)
  have K8 := hide (k8.rw (unhide K7) (Ne.symm hxw))
  have B8 := hide ((unhide B7).trans (k8.below hx0))
  have s8 := (unhide B8).size
  clear hA k8 I7 X7 K7 B7
  go_wp2_with fail
  refine (eqU_same _ 0 8 _ _ 0 _ r _ (by omega) (unhide I8).r (unhide K8)).mono ?_
  rintro e w9 ⟨rfl, b9⟩
  have I9 := hide ((unhide I8).below b9 (unhide I8).lt)
  have K9 := hide ((unhide K8).kept b9)
  have B9 := hide ((unhide B8).trans (b9.mono s8))
  have s9 := (unhide B9).size
  clear b9 I8 K8 B8
  go_wp2_with fail
  refine (unhide hM _ _ _ _ (unhide I9)).mono ?_
  rintro e w10 ⟨rfl, hA, k10⟩
  have I10 := hide hA
  have K10 := hide (k10.rw (unhide K9) (Ne.symm hiw))
  have B10 := hide ((unhide B9).trans (k10.below hgi0))
  have s10 := (unhide B10).size
  clear hA k10 I9 K9 B9
  go_wp2_with fail
  refine (unhide hH _ _ _ (unhide I10).r).mono ?_
  rintro e w11 ⟨rfl, b11⟩
  have I11 := hide ((unhide I10).r.kept b11)
  have K11 := hide ((unhide K10).kept b11)
  have B11 := hide ((unhide B10).trans (b11.mono s10))
  have s11 := (unhide B11).size
  clear b11 I10 K10 B10
  go_wp2_with fail
  refine (toU_any a 8 cap f _ (by omega) ((unhide HU).kept (B := 0) (unhide B11))).mono ?_
  rintro e w12 ⟨rfl, hA, b12⟩
  have C12 := hide hA.r
  have I12 := hide ((unhide I11).kept b12)
  have K12 := hide ((unhide K11).kept b12)
  have B12 := hide ((unhide B11).trans (b12.mono s11))
  have T12 := hide ((unhide HT).kept (unhide B12))
  have s12 := (unhide B12).size
  clear hA b12 I11 K11 B11
  go_wp2_with fail
  refine (implHF_ok _ 0 8 f t hf ht _ (unhide T12) (unhide C12)).mono ?_
  rintro e w13 ⟨gj, rfl, hgj, hA, b13⟩
  rw [hr] at hA
  have J13 := hide hA.r
  have I13 := hide ((unhide I12).kept b13)
  have K13 := hide ((unhide K12).kept b13)
  have B13 := hide ((unhide B12).trans (b13.mono s12))
  have s13 := (unhide B13).size
  clear hA b13 C12 I12 K12 B12 T12
  go_wp2_with fail
  refine (eqU_same _ 0 8 _ _ 0 _ r _ (by omega) (unhide J13) (unhide K13)).mono ?_
  rintro e w14 ⟨rfl, b14⟩
  have I14 := hide ((unhide I13).kept b14)
  have B14 := hide ((unhide B13).trans (b14.mono s13))
  have s14 := (unhide B14).size
  clear b14 J13 I13 K13 B13
  go_wp2_with fail
  refine (unhide hH _ _ _ (unhide I14)).mono ?_
  rintro e w15 ⟨rfl, b15⟩
  have B15 := hide ((unhide B14).trans (b15.mono s14))
  clear b15 I14 B14
  go_wp2
  go_ret
  exact ⟨rfl, unhide B15⟩
set_option maxHeartbeats 2000000 in
theorem walk_no (a : Option Addr) (n cap : Nat) (f : Nat → Nat) (t : ByteArray) (h : ¬ (n = 8 ∧ t.size = 64)) (hn : n ≤ 1048576) (hl : t.size ≤ 1048576) (w : World) (hU : Ua w a n f) :
    Calls Tryd.prog 8 #[.slice a n cap, .string t] w fun e w' => e = .returned (.bool true) ∧ Below w.heap.size w w' := by
  have HU := hide hU
  have HH := hide h
  clear hU h
  have q1 : ¬ (1048576 : Int) < n := by omega
  have q2 : ¬ (1048576 : Int) < t.size := by omega
  go_enter Tryd.func8, Tryd.ntmps8
  go_wp2_with fail
  refine (toU_any a n cap f _ hn (unhide HU)).mono ?_
  rintro e w1 ⟨rfl, hA, b1⟩
  have B1 := hide b1
  have s1 := b1.size
  clear hA b1
  go_wp2_with fail
  refine (specHF_no _ n n t (unhide HH) hn hl _).mono ?_
  rintro e w2 ⟨rfl, b2⟩
  have B2 := hide ((unhide B1).trans (b2.mono s1))
  have s2 := (unhide B2).size
  clear b2 B1
  go_wp2_with fail
  refine (toU_any a n cap f _ hn ((unhide HU).kept (B := 0) (unhide B2))).mono ?_
  rintro e w3 ⟨rfl, hA, b3⟩
  have X3 := hide hA
  have B3 := hide ((unhide B2).trans (b3.mono s2))
  have s3 := (unhide B3).size
  have hx0 : w.heap.size ≤ w2.heap.size := s2
  generalize w2.heap.size = gx at *
  clear hA b3 B2
  go_wp2_with fail
  refine (implHF_no _ n n t (unhide HH) hn hl _).mono ?_
  rintro e w4 ⟨rfl, b4⟩
  have X4 := hide ((unhide X3).below b4 (unhide X3).lt)
  have B4 := hide ((unhide B3).trans (b4.mono s3))
  have s4 := (unhide B4).size
  clear b4 X3 B3
  go_wp2_with fail
  refine (eqU_none _ _ _ _ _).mono ?_
  rintro e w5 ⟨rfl, b5⟩
  have X5 := hide ((unhide X4).below b5 (unhide X4).lt)
  have B5 := hide ((unhide B4).trans (b5.mono s4))
  have s5 := (unhide B5).size
  clear b5 X4 B4
  go_wp2_with fail
  refine (toU_any a n cap f _ hn ((unhide HU).kept (B := 0) (unhide B5))).mono ?_
  rintro e w6 ⟨rfl, hA, b6⟩
  have C6 := hide hA.r
  have X6 := hide ((unhide X5).below b6 (unhide X5).lt)
  have B6 := hide ((unhide B5).trans (b6.mono s5))
  have s6 := (unhide B6).size
  clear hA b6 X5 B5
  go_wp2_with fail
  refine (eqU_same _ 0 n _ _ 0 _ f _ hn (unhide X6).r (unhide C6)).mono ?_
  rintro e w7 ⟨rfl, b7⟩
  have X7 := hide ((unhide X6).below b7 (unhide X6).lt)
  have B7 := hide ((unhide B6).trans (b7.mono s6))
  have s7 := (unhide B7).size
  clear b7 C6 X6 B6
  have hM : Hid (∀ W, Aw W gx 0 n f → Calls Tryd.prog 26 #[.slice (some ⟨gx, 0, none⟩) n n, .int .i64 1] W fun e w' => e = .returned (.int .i64 (1 + (n : Int))) ∧ Aw w' gx 0 n (mk1 1) ∧ Kb gx W w') := fun W h => (markU gx n n 1 f W hn (by omega) h).mono fun e w' ⟨h1, h2, h3⟩ => ⟨by rw [h1, Int.natCast_add]; rfl, h2, h3⟩
  go_wp2_with fail
  refine (unhide hM _ (unhide X7)).mono ?_
  rintro e w8 ⟨rfl, hA, k8⟩
  have B8 := hide ((unhide B7).trans (k8.below hx0))
  have s8 := (unhide B8).size
  clear hA k8 X7 B7
  go_wp2_with fail
  refine (eqU_none _ _ _ _ _).mono ?_
  rintro e w9 ⟨rfl, b9⟩
  have B9 := hide ((unhide B8).trans (b9.mono s8))
  have s9 := (unhide B9).size
  clear b9 B8
  go_wp2_with fail
  refine (markU_none _ _).mono ?_
  rintro e w10 ⟨rfl, b10⟩
  have B10 := hide ((unhide B9).trans (b10.mono s9))
  have s10 := (unhide B10).size
  clear b10 B9
  go_wp2_with fail
  refine (heldU_none _ _).mono ?_
  rintro e w11 ⟨rfl, b11⟩
  have B11 := hide ((unhide B10).trans (b11.mono s10))
  have s11 := (unhide B11).size
  clear b11 B10
  go_wp2_with fail
  refine (toU_any a n cap f _ hn ((unhide HU).kept (B := 0) (unhide B11))).mono ?_
  rintro e w12 ⟨rfl, hA, b12⟩
  have B12 := hide ((unhide B11).trans (b12.mono s11))
  have s12 := (unhide B12).size
  clear hA b12 B11
  go_wp2_with fail
  refine (implHF_no _ n n t (unhide HH) hn hl _).mono ?_
  rintro e w13 ⟨rfl, b13⟩
  have B13 := hide ((unhide B12).trans (b13.mono s12))
  have s13 := (unhide B13).size
  clear b13 B12
  go_wp2_with fail
  refine (eqU_none _ _ _ _ _).mono ?_
  rintro e w14 ⟨rfl, b14⟩
  have B14 := hide ((unhide B13).trans (b14.mono s13))
  have s14 := (unhide B14).size
  clear b14 B13
  go_wp2_with fail
  refine (heldU_none _ _).mono ?_
  rintro e w15 ⟨rfl, b15⟩
  have B15 := hide ((unhide B14).trans (b15.mono s14))
  clear b15 B14
  go_wp2
  go_ret
  exact ⟨rfl, unhide B15⟩
theorem walk (a : Option Addr) (n cap : Nat) (f : Nat → Nat) (t : ByteArray) (hf : ∀ i, f i < 4294967296) (hn : n ≤ maxLen) (hl : t.size ≤ maxLen) (w : World) (hT : Rt w) (hU : Ua w a n f) :
    Calls Tryd.prog 8 #[.slice a n cap, .string t] w fun e w' => e = .returned (.bool true) ∧ Below w.heap.size w w' := by
  unfold maxLen at hn hl
  by_cases h1 : (1048576 : Int) < n
  · clear hU
    go_enter Tryd.func8, Tryd.ntmps8
    go_wp2
    go_ret
    exact ⟨rfl, Below.refl _ _⟩
  by_cases h2 : (1048576 : Int) < t.size
  · clear hU
    go_enter Tryd.func8, Tryd.ntmps8
    go_wp2
    go_ret
    exact ⟨rfl, Below.refl _ _⟩
  by_cases h : n = 8 ∧ t.size = 64
  · obtain ⟨rfl, h64⟩ := h
    exact walk_ok a cap f t hf h64 w hT hU
  · exact walk_no a n cap f t h (by omega) (by omega) w hU
end Go.Proofs.YtcedecmapgfkhaaDoor.fnExactHashFrom
