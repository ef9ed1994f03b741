/-
  The law on RankBackends, walked.
-/
import Derived.Test.YtpjmnnaiegdjmaaDoorRkiX
import Derived.Test.YtpjmnnaiegdjmaaDoorRsw
namespace Go.Proofs.YtpjmnnaiegdjmaaDoor.fnExactRankBackends
open Go.ChangeShapes Go.WideShapes Go.ChangeAt Go.RowKit Go.Deep
set_option linter.unusedVariables false
set_option maxRecDepth 100000

set_option maxHeartbeats 4000000 in
theorem walk_same (a : Option Addr) (cap : Nat) (L : List ByteArray) (x : ByteArray) (l0 : x.size ≤ 1048576) (hn : L.length ≤ 1048576) (M : List ByteArray) (b : Bool) (hM : M.length ≤ 1000000) (w : World) (hm : L.length ≤ maxLen) (hz : ∀ i, i < L.length → (tA L i).size ≤ maxLen) (h : Ta w a L) (hT : Rt w)
    (HS : ∀ (g : Nat) (W : World), Ta W (some ⟨g, 0, none⟩) L → Calls Tryd.prog 16 #[.slice (some ⟨g, 0, none⟩) L.length L.length, .string x] W (Rs M b W))
    (HI : ∀ (g : Nat) (W : World), Ta W (some ⟨g, 0, none⟩) L → Rt W → Calls Tryd.prog 17 #[.slice (some ⟨g, 0, none⟩) L.length L.length, .string x] W (Rs M b W)) :
    Calls Tryd.prog 5 #[.slice a L.length cap, .string x] w fun e w' => e = .returned (.bool true) ∧ Below w.heap.size w w' := by
  have HZ := hide (szS_any a L.length cap (tA L) 1048576 w (by omega) hm hz h)
  have HTo := hide (fun W (q : Below w.heap.size w W) => toS_any a L.length cap (tA L) W hn (h.kept q))
  have H1 := hide HS
  have H2 := hide HI
  have HT := hide (fun W (q : Below w.heap.size w W) => hT.kept q)
  have h0 : ¬ (1048576 : Int) < x.size := by omega
  generalize hFF : tA M = F at *
  clear HS HI h hz hm hT
  go_enter Tryd.func5, Tryd.ntmps5
  go_wp2_with fail
  refine (unhide HZ).mono ?_
  rintro e w0 ⟨he, e0⟩
  subst w0
  rcases he with rfl | ⟨r, rfl, hr, _, _⟩
  · go_wp2
    go_ret
    exact ⟨rfl, Below.refl _ _⟩
  have hr0 : ¬ (r : Int) < 0 := by omega
  clear HZ
  go_wp2_with fail
  refine (unhide HTo _ (Below.refl _ _)).mono ?_
  rintro e w1 ⟨rfl, s1, z1, b1⟩
  have B1 := hide b1
  have S1 := hide s1.sa
  clear s1 z1 b1
  go_wp2_with fail
  refine (unhide H1 _ _ (unhide S1)).mono ?_
  rintro e w2 ⟨a0, c0, rfl, s2, b2⟩
  rw [hFF] at s2
  have B2 := hide ((unhide B1).trans (b2.mono (unhide B1).size))
  have U2 := hide s2.un
  have T2 := hide s2.sa
  clear s2 b2 S1
  go_wp2_with fail
  refine (unhide HTo _ (unhide B2)).mono ?_
  rintro e w3 ⟨rfl, s3, z3, b3⟩
  have B3 := hide ((unhide B2).trans (b3.mono (unhide B2).size))
  have T3 := hide ((unhide T2).kept b3)
  have X3 := hide s3
  have z23 := b3.size
  clear s3 b3 T2
  go_wp2_with fail
  refine (unhide H2 _ _ (unhide X3).sa (unhide HT _ (unhide B3))).mono ?_
  rintro e w4 ⟨a1, c1, rfl, s4, b4⟩
  rw [hFF] at s4
  have B4 := hide ((unhide B3).trans (b4.mono (unhide B3).size))
  have T4 := hide ((unhide T3).kept b4)
  have X4 := hide ((unhide X3).kept b4)
  have G4 := hide s4
  have z34 := b4.size
  clear s4 b4 T3 X3
  go_wp2_with fail
  refine (eqS_same _ _ M.length c1 c0 F _ (by omega) (unhide G4).sa (unhide T4)).mono ?_
  rintro e w5 ⟨rfl, b5⟩
  have B5 := hide ((unhide B4).trans (b5.mono (unhide B4).size))
  have T5 := hide ((unhide T4).kept b5)
  have X5 := hide ((unhide X4).kept b5)
  have G5 := hide ((unhide G4).kept b5)
  have z45 := b5.size
  clear b5 T4 X4 G4
  go_wp2_with fail
  refine (unhide HTo _ (unhide B5)).mono ?_
  rintro e w6 ⟨rfl, s6, z6, b6⟩
  have B6 := hide ((unhide B5).trans (b6.mono (unhide B5).size))
  have T6 := hide ((unhide T5).kept b6)
  have X6 := hide ((unhide X5).kept b6)
  have G6 := hide ((unhide G5).kept b6)
  have Y6 := hide s6.sa
  have z56 := b6.size
  clear s6 b6 T5 X5 G5
  go_wp2_with fail
  refine (eqS_same _ _ L.length L.length L.length (tA L) _ hn (unhide X6).sa (unhide Y6)).mono ?_
  rintro e w7 ⟨rfl, b7⟩
  have B7 := hide ((unhide B6).trans (b7.mono (unhide B6).size))
  have T7 := hide ((unhide T6).kept b7)
  have X7 := hide ((unhide X6).kept b7)
  have G7 := hide ((unhide G6).kept b7)
  have z67 := b7.size
  clear b7 T6 X6 G6 Y6
  go_wp2_with fail
  refine (markS w2.heap.size _ L.length L.length 1 (tA L) _ hn (by omega) (by omega) (by omega) (unhide X7)).mono ?_
  rintro e w8 ⟨rfl, s8, k8, b8⟩
  have B8 := hide ((unhide B7).trans (b8.mono (unhide B2).size))
  have T8 : Hid (Sa w8 a0 M.length F) := by
    rcases unhide U2 with u | ⟨g, eg, u⟩
    · exact Or.inl u
    · exact (unhide T7).kg k8 (fun b' o' g' e1 e2 _ => by
        rw [eg] at e1
        injection e1 with e1
        injection e1 with e1 _ _
        injection e2 with e2
        injection e2 with e2 _ _
        omega)
  have G8 : Hid (Sn w3.heap.size w8 a1 M.length F) := (unhide G7).kg k8 (fun b' g' e1 e2 h9 => by
    injection e2 with e2
    injection e2 with e2 _ _
    omega)
  have z78 := k8.size
  clear s8 k8 b8 T7 G7 X7
  generalize hm : 1 + L.length = m at *
  have hm0 : ¬ ((m : Nat) : Int) < 0 := by omega
  go_wp2_with fail
  refine (eqS_same _ _ M.length c1 c0 F _ (by omega) (unhide G8).sa (unhide T8)).mono ?_
  rintro e w9 ⟨rfl, b9⟩
  have B9 := hide ((unhide B8).trans (b9.mono (unhide B8).size))
  have T9 := hide ((unhide T8).kept b9)
  have G9 := hide ((unhide G8).kept b9)
  have z89 := b9.size
  clear b9 T8 G8
  go_wp2_with fail
  refine (markS w3.heap.size a1 M.length c1 1 F _ (by omega) (by omega) (by omega) (by omega) (unhide G9)).mono ?_
  rintro e w10 ⟨rfl, s10, k10, b10⟩
  have B10 := hide ((unhide B9).trans (b10.mono (unhide B3).size))
  have T10 : Hid (Sa w10 a0 M.length F) := by
    rcases unhide U2 with u | ⟨g, eg, u⟩
    · exact Or.inl u
    rcases s10 with u | ⟨q, eq, hq⟩
    · exact Or.inl u
    · exact (unhide T9).kg k10 (fun b' o' g' e1 e2 _ => by
        rw [eg] at e1
        rw [eq] at e2
        injection e1 with e1
        injection e1 with e1 _ _
        injection e2 with e2
        injection e2 with e2 _ _
        have := hq.ge
        omega)
  have G10 := hide s10
  clear s10 k10 b10 T9 G9
  go_wp2_with fail
  refine (heldS a1 M.length c1 1 _ (by omega) (by omega) (by omega) (unhide G10).sa).mono ?_
  rintro e w11 ⟨rfl, b11⟩
  have B11 := hide ((unhide B10).trans (b11.mono (unhide B10).size))
  have T11 := hide ((unhide T10).kept b11)
  have G11 := hide ((unhide G10).kept b11)
  clear b11 T10 G10
  generalize hq : 1 + M.length = q at *
  have hq0 : ¬ ((q : Nat) : Int) < 0 := by omega
  go_wp2_with fail
  refine (unhide HTo _ (unhide B11)).mono ?_
  rintro e w12 ⟨rfl, s12, z12, b12⟩
  have B12 := hide ((unhide B11).trans (b12.mono (unhide B11).size))
  have T12 := hide ((unhide T11).kept b12)
  have G12 := hide ((unhide G11).kept b12)
  have X12 := hide s12.sa
  clear s12 b12 z12 T11 G11
  go_wp2_with fail
  refine (unhide H2 _ _ (unhide X12) (unhide HT _ (unhide B12))).mono ?_
  rintro e w13 ⟨a2, c2, rfl, s13, b13⟩
  rw [hFF] at s13
  have B13 := hide ((unhide B12).trans (b13.mono (unhide B12).size))
  have T13 := hide ((unhide T12).kept b13)
  have G13 := hide ((unhide G12).kept b13)
  have S13 := hide s13.sa
  clear s13 b13 T12 G12
  go_wp2_with fail
  refine (eqS_same _ _ M.length c2 c0 F _ (by omega) (unhide S13) (unhide T13)).mono ?_
  rintro e w14 ⟨rfl, b14⟩
  have B14 := hide ((unhide B13).trans (b14.mono (unhide B13).size))
  have G14 := hide ((unhide G13).kept b14)
  clear b14 T13 G13 S13
  go_wp2_with fail
  refine (heldS a1 M.length c1 1 _ (by omega) (by omega) (by omega) (unhide G14).sa).mono ?_
  rintro e w15 ⟨rfl, b15⟩
  have B15 := hide ((unhide B14).trans (b15.mono (unhide B14).size))
  clear b15 G14
  rw [hq]
  go_wp2
  go_ret
  exact ⟨rfl, unhide B15⟩
theorem walk (a : Option Addr) (cap : Nat) (L : List ByteArray) (hm : L.length ≤ maxLen) (hz : ∀ i, i < L.length → (tA L i).size ≤ maxLen) (x : ByteArray) (hx : x.size ≤ maxLen) (w : World) (h : Ta w a L) (hT : Rt w) :
    Calls Tryd.prog 5 #[.slice a L.length cap, .string x] w fun e w' => e = .returned (.bool true) ∧ Below w.heap.size w w' := by
  by_cases l0 : (1048576 : Int) < x.size
  · unfold maxLen at hx
    go_enter Tryd.func5, Tryd.ntmps5
    go_wp2
    go_ret
    exact ⟨rfl, Below.refl _ _⟩
  by_cases hb : L.length ≤ 1048576 ∧ ∀ i, i < L.length → (tA L i).size ≤ 1048576
  · exact walk_same a cap L x (by omega) hb.1 (rbM L x) (rbB L x) (by have h1 := rbM_len L x; omega) w hm hz h hT (fun g W q => specRk _ L.length L x W hb.1 hb.2 (by omega) q) (fun g W q t => implRk _ L.length L x W hb.1 hb.2 (by omega) q t)
  · -- it weighs too much: let by
    have HZ := hide (szS_any a L.length cap (tA L) 1048576 w (by omega) hm hz h)
    have h0 : ¬ (1048576 : Int) < x.size := l0
    clear h hz hm hT
    go_enter Tryd.func5, Tryd.ntmps5
    go_wp2_with fail
    refine (unhide HZ).mono ?_
    rintro e w0 ⟨he, e0⟩
    subst w0
    rcases he with rfl | ⟨r, rfl, hr, h1, h2⟩
    · go_wp2
      go_ret
      exact ⟨rfl, Below.refl _ _⟩
    · exact absurd ⟨h1, h2⟩ hb
end Go.Proofs.YtpjmnnaiegdjmaaDoor.fnExactRankBackends
