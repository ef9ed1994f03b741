/-
  The law on PlayWindow, walked out of the contracts of both sides.
-/
import Derived.Test.YtcmniehcabnmeabWnp
import Derived.Deep.DeepCutAuto
namespace Go.Proofs.Ytcmniehcabnmeab.Rc
open Go.ChangeShapes Go.WideShapes Go.ChangeAt Go.RowKit Go.Deep
set_option linter.unusedVariables false
set_option maxRecDepth 100000

set_option maxHeartbeats 16000000 in
theorem playWindow_given (L : List GrowD) (E : WindowD) (A : List Int) (r : Bool) (w : World) (aL : Option Addr) (cL : Nat) (mL : L.length ≤ maxLen) (hL : Rd growK w aL L) (hA : A.length ≤ 1048576)
    (HS : L.length ≤ 1048576 → ∀ (W : World) (aL : Option Addr) (cL : Nat) (_ : Rd growK W aL L), Calls Try.prog 9 #[.slice aL L.length cL] W (FQ E A r W))
    (HI : L.length ≤ 1048576 → ∀ (W : World) (aL : Option Addr) (cL : Nat) (_ : Rd growK W aL L), Calls Try.prog 11 #[.slice aL L.length cL] W (FQ E A r W)) :
    Calls Try.prog 4 #[.slice aL L.length cL] w fun e w' => e = .returned (.bool true) ∧ Below w.heap.size w w' := by
  have HZL := hide (fun W => szGrowS_any aL L.length cL 1048576 W mL (Nat.le_refl _))
  have HT' := hide (fun (hs : L.length ≤ 1048576) W (b : Below w.heap.size w W) => toGrowS_any aL cL L W hs (hL.below b))
  have H2' := hide HS
  have H3' := hide HI
  clear hL HS HI
  go_enter Try.func4, Try.ntmps4
  go_wp2_with fail
  refine (unhide HZL _).mono ?_
  rintro e w9 ⟨he, h9⟩
  rw [h9]
  clear h9 w9 HZL
  rcases he with rfl | ⟨z, rfl, hz1, hs⟩
  · go_wp2
    go_ret
    exact ⟨rfl, Below.refl _ _⟩
  have hz : ¬ (z : Int) < 0 := by omega
  have HT := hide (unhide HT' hs)
  have H2 := hide (unhide H2' hs)
  have H3 := hide (unhide H3' hs)
  have H5 := hide (eqWindow_same E)
  have H6 := hide (fun a c a' c' W (h : Rd growK W a L) (h' : Rd growK W a' L) => eqGrowS_same a a' c c' L W hs h h')
  have H7 := hide (fun a c a' c' W (h : Rd intK W a A) (h' : Rd intK W a' A) => eqIntS_same a a' c c' A W hA h h')
  have HSZ := hide hs
  have B0 := hide (Below.refl w.heap.size w)
  clear hs HT' H2' H3' hz1
  go_wp2_with fail
  refine (unhide HT _ (unhide B0)).mono ?_
  rintro e w3 ⟨g3, rfl, i3, b3⟩
  have TL := hide (Ri.rd i3)
  replace B0 := hide ((unhide B0).trans (b3.mono (unhide B0).size))
  clear i3 b3
  go_wp2_with fail
  refine (unhide H2 _ _ _ (unhide TL)).mono ?_
  rintro e w4 ⟨aw, cw, gw, rfl, i1, b4⟩
  obtain ⟨V4, hV4⟩ : ∃ V, V = w4.alloc (.cells #[.int .i64 E.f0, .int .i64 E.f1, .int .i64 E.f2, .int .i64 E.f3] 26) := ⟨_, rfl⟩
  have AL : Below w4.heap.size w4 V4 := by rw [hV4]; exact (Below.refl _ _).alloc (Nat.le_refl _) _
  have bV := b4.trans (AL.mono b4.size)
  have P4 := hide (show Bx V4 w4.heap.size (windowC E) by rw [hV4]; exact Bx.new w4 _ _)
  have WR := hide ((i1.below AL).rd)
  have B04 := hide ((unhide B0).trans (bV.mono (unhide B0).size))
  have s4 : w4.heap.size < V4.heap.size := (unhide P4).lt
  have B4 := hide (Below.refl V4.heap.size V4)
  have HV4 := hide hV4
  clear hV4 AL bV i1 b4 TL B0 H2
  go_upto_region 6 with fail
  rw [← unhide HV4]
  clear HV4
  go_wp2_with fail
  refine (unhide HT _ (unhide B04)).mono ?_
  rintro e w6 ⟨g6, rfl, i6, b6⟩
  have X1 := hide i6
  replace B4 := hide ((unhide B4).trans (b6.mono (unhide B4).size))
  have s6 : V4.heap.size ≤ w6.heap.size := b6.size
  clear i6 b6
  go_wp2_with fail
  refine (unhide H3 _ _ _ (Ri.rd (unhide X1))).mono ?_
  rintro e w7 ⟨a1, c1, g1, rfl, i1, b7⟩
  obtain ⟨V7, hV7⟩ : ∃ V, V = w7.alloc (.cells #[.int .i64 E.f0, .int .i64 E.f1, .int .i64 E.f2, .int .i64 E.f3] 26) := ⟨_, rfl⟩
  have AL : Below w7.heap.size w7 V7 := by rw [hV7]; exact (Below.refl _ _).alloc (Nat.le_refl _) _
  have bV := b7.trans (AL.mono b7.size)
  have P8 := hide (show Bx V7 w7.heap.size (windowC E) by rw [hV7]; exact Bx.new w7 _ _)
  have p1 := hide i1.pl
  have G1 := hide (i1.below AL)
  replace X1 := hide ((unhide X1).below bV)
  replace B4 := hide ((unhide B4).trans (bV.mono (unhide B4).size))
  have s7 : w6.heap.size ≤ w7.heap.size := b7.size
  have s7' : w7.heap.size < V7.heap.size := (unhide P8).lt
  have HV7 := hide hV7
  clear hV7 AL bV i1 b7
  go_upto_region 8 with fail
  rw [← unhide HV7]
  clear HV7
  have y8 := (unhide P8).cv
  have y8l := (unhide P8).lt
  have y4 := ((unhide P4).below (unhide B4)).cv
  have y4l := ((unhide P4).below (unhide B4)).lt
  go_wp2_with fail
  refine (unhide H5 _).mono ?_
  rintro e u101 ⟨rfl, b101⟩
  replace P8 := hide ((unhide P8).below b101)
  replace X1 := hide ((unhide X1).below b101)
  replace G1 := hide ((unhide G1).below b101)
  replace B4 := hide ((unhide B4).trans (b101.mono (unhide B4).size))
  have s101 := b101.size
  clear b101
  clear y8 y8l y4 y4l
  go_wp2_with fail
  refine (unhide H7 _ _ _ _ _ (Rb.rd (unhide G1)) ((unhide WR).below (unhide B4))).mono ?_
  rintro e u102 ⟨rfl, b102⟩
  replace P8 := hide ((unhide P8).below b102)
  replace X1 := hide ((unhide X1).below b102)
  replace G1 := hide ((unhide G1).below b102)
  replace B4 := hide ((unhide B4).trans (b102.mono (unhide B4).size))
  have s102 := b102.size
  clear b102
  go_wp2_with fail
  refine (unhide HT _ ((unhide B04).trans ((unhide B4).mono (unhide B04).size))).mono ?_
  rintro e w15 ⟨g15, rfl, i15, b15⟩
  have TL := hide (Ri.rd i15)
  replace P8 := hide ((unhide P8).below b15)
  replace X1 := hide ((unhide X1).below b15)
  replace G1 := hide ((unhide G1).below b15)
  replace B4 := hide ((unhide B4).trans (b15.mono (unhide B4).size))
  have s15 := b15.size
  clear i15 b15
  go_wp2_with fail
  refine (unhide H6 _ _ _ _ _ (Ri.rd (unhide X1)) (unhide TL)).mono ?_
  rintro e u103 ⟨rfl, b103⟩
  replace P8 := hide ((unhide P8).below b103)
  replace X1 := hide ((unhide X1).below b103)
  replace G1 := hide ((unhide G1).below b103)
  replace B4 := hide ((unhide B4).trans (b103.mono (unhide B4).size))
  have s103 := b103.size
  clear b103
  have hs := unhide HSZ
  have ML := hide (fun W h => markGrowS_any V4.heap.size w6.heap.size (some ⟨g6, 0, none⟩) L.length L 1 W hs (by omega) h)
  have hb9 : 1 + L.length * 4 ≤ 60000000 := by omega
  generalize 1 + L.length * 4 = k9 at *
  have hn9 : ¬ (k9 : Int) < 0 := by omega
  have HP : Hid (∀ q, A ≠ [] → q = g1 → w6.heap.size ≤ q ∧ q < w7.heap.size) := fun q h e => e ▸ unhide p1 h
  clear hs TL p1
  go_wp2_with fail
  refine (unhide ML _ (unhide X1)).mono ?_
  rintro e w16 ⟨rfl, m16, q16⟩
  have s16 := q16.size
  replace P8 := hide ((unhide P8).kept q16.size (q16.block _ (unhide P8).lt (by omega)))
  replace G1 := hide ((unhide G1).kz q16 (fun h9 => by have := unhide HP g1 h9 rfl; omega))
  replace B4 := hide ((unhide B4).trans (q16.below (unhide B4).size (fun q hq => by omega)))
  clear m16 q16 X1
  have y8 := (unhide P8).cv
  have y8l := (unhide P8).lt
  have y4 := ((unhide P4).below (unhide B4)).cv
  have y4l := ((unhide P4).below (unhide B4)).lt
  go_wp2_with fail
  refine (unhide H5 _).mono ?_
  rintro e u104 ⟨rfl, b104⟩
  replace P8 := hide ((unhide P8).below b104)
  replace G1 := hide ((unhide G1).below b104)
  replace B4 := hide ((unhide B4).trans (b104.mono (unhide B4).size))
  have s104 := b104.size
  clear b104
  clear y8 y8l y4 y4l
  go_wp2_with fail
  refine (unhide H7 _ _ _ _ _ (Rb.rd (unhide G1)) ((unhide WR).below (unhide B4))).mono ?_
  rintro e u105 ⟨rfl, b105⟩
  replace P8 := hide ((unhide P8).below b105)
  replace G1 := hide ((unhide G1).below b105)
  replace B4 := hide ((unhide B4).trans (b105.mono (unhide B4).size))
  have s105 := b105.size
  clear b105
  have M1 := hide (fun W h => markI_rb g1 w6.heap.size a1 c1 A 1 W hA (by omega) h)
  have K1 := hide (fun W h => heldIntS_any g1 a1 A.length c1 1 W hA (by omega) h)
  have hc1 : 1 + A.length ≤ 8000000 := by omega
  generalize 1 + A.length = j1 at *
  have hn1 : ¬ (j1 : Int) < 0 := by omega
  go_wp2_with fail
  refine (unhide M1 _ (unhide G1)).mono ?_
  rintro e w17 ⟨rfl, m17, q17⟩
  have s17 := q17.size
  replace P8 := hide ((unhide P8).kept q17.size (q17.block _ (unhide P8).lt (fun hq => by have := unhide HP _ hq.1 hq.2; omega)))
  replace B4 := hide ((unhide B4).trans (q17.below (unhide B4).size (fun q hq => by have := unhide HP q hq.1 hq.2; omega)))
  replace G1 := hide m17
  clear m17 q17
  go_wp2_with fail
  refine (unhide K1 _ (unhide G1)).mono ?_
  rintro e u106 ⟨rfl, b106⟩
  replace P8 := hide ((unhide P8).below b106)
  replace G1 := hide ((unhide G1).below b106)
  replace B4 := hide ((unhide B4).trans (b106.mono (unhide B4).size))
  have s106 := b106.size
  clear b106
  go_wp2_with fail
  refine (unhide HT _ ((unhide B04).trans ((unhide B4).mono (unhide B04).size))).mono ?_
  rintro e w23 ⟨g23, rfl, i23, b23⟩
  have TL := hide (Ri.rd i23)
  replace P8 := hide ((unhide P8).below b23)
  replace G1 := hide ((unhide G1).below b23)
  replace B4 := hide ((unhide B4).trans (b23.mono (unhide B4).size))
  clear i23 b23
  go_wp2_with fail
  refine (unhide H3 _ _ _ (unhide TL)).mono ?_
  rintro e w24 ⟨ah, ch, gh, rfl, i1, b24⟩
  obtain ⟨V24, hV24⟩ : ∃ V, V = w24.alloc (.cells #[.int .i64 E.f0, .int .i64 E.f1, .int .i64 E.f2, .int .i64 E.f3] 26) := ⟨_, rfl⟩
  have AL : Below w24.heap.size w24 V24 := by rw [hV24]; exact (Below.refl _ _).alloc (Nat.le_refl _) _
  have bV := b24.trans (AL.mono b24.size)
  have P23 := hide (show Bx V24 w24.heap.size (windowC E) by rw [hV24]; exact Bx.new w24 _ _)
  have R1 := hide ((i1.below AL).rd)
  replace P8 := hide ((unhide P8).below bV)
  replace G1 := hide ((unhide G1).below bV)
  replace B4 := hide ((unhide B4).trans (bV.mono (unhide B4).size))
  have HV24 := hide hV24
  clear hV24 AL bV i1 b24 TL
  go_upto_region 25 with fail
  rw [← unhide HV24]
  clear HV24
  have y8 := (unhide P23).cv
  have y8l := (unhide P23).lt
  have y4 := ((unhide P4).below (unhide B4)).cv
  have y4l := ((unhide P4).below (unhide B4)).lt
  go_wp2_with fail
  refine (unhide H5 _).mono ?_
  rintro e u107 ⟨rfl, b107⟩
  replace P8 := hide ((unhide P8).below b107)
  replace G1 := hide ((unhide G1).below b107)
  replace P23 := hide ((unhide P23).below b107)
  replace R1 := hide ((unhide R1).below b107)
  replace B4 := hide ((unhide B4).trans (b107.mono (unhide B4).size))
  have s107 := b107.size
  clear b107
  clear y8 y8l y4 y4l
  go_wp2_with fail
  refine (unhide H7 _ _ _ _ _ (unhide R1) ((unhide WR).below (unhide B4))).mono ?_
  rintro e u108 ⟨rfl, b108⟩
  replace P8 := hide ((unhide P8).below b108)
  replace G1 := hide ((unhide G1).below b108)
  replace P23 := hide ((unhide P23).below b108)
  replace R1 := hide ((unhide R1).below b108)
  replace B4 := hide ((unhide B4).trans (b108.mono (unhide B4).size))
  have s108 := b108.size
  clear b108
  go_wp2_with fail
  refine (unhide K1 _ (unhide G1)).mono ?_
  rintro e u109 ⟨rfl, b109⟩
  replace P8 := hide ((unhide P8).below b109)
  replace G1 := hide ((unhide G1).below b109)
  replace B4 := hide ((unhide B4).trans (b109.mono (unhide B4).size))
  have s109 := b109.size
  clear b109
  have BZ := hide ((unhide B04).trans ((unhide B4).mono (unhide B04).size))
  clear B4 P8 G1
  go_wp2
  go_ret
  exact ⟨rfl, unhide BZ⟩
end Go.Proofs.Ytcmniehcabnmeab.Rc
