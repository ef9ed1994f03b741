/-
  Spaces: the laws' copies of them, what they weigh, how they are held against each other, marked.
-/
import Derived.Test.YtianpcipipdokaaRts
import Derived.Test.YtianpcipipdokaaRcSent
namespace Go.Proofs.Ytianpcipipdokaa.Rc
open Go.ChangeShapes Go.WideShapes Go.ChangeAt Go.RowKit Go.Deep
set_option linter.unusedVariables false
set_option maxRecDepth 100000

/-- a space -/
structure SpaceD where
  lg : Int
  S : List SentD
  r : RttD
/-- its cells -/
abbrev spaceC (D : SpaceD) (a : Option Addr) (c : Nat) : List Value := [.int .i64 D.lg, .slice a D.S.length c, .bool D.r.kn, .int .i64 D.r.la, .int .i64 D.r.mi, .int .i64 D.r.sm, .int .i64 D.r.va]
/-- as a value -/
abbrev spaceV (D : SpaceD) (a : Option Addr) (c : Nat) : Value := .agg #[.int .i64 D.lg, .slice a D.S.length c, .bool D.r.kn, .int .i64 D.r.la, .int .i64 D.r.mi, .int .i64 D.r.sm, .int .i64 D.r.va]
/-- it lies there, to be read -/
abbrev RdSpace (W : World) (a : Option Addr) (D : SpaceD) : Prop := Rd sentK W a D.S
abbrev spaceZ : List Value := [.int .i64 0, .slice none 0 0, .bool false, .int .i64 0, .int .i64 0, .int .i64 0, .int .i64 0]
set_option maxHeartbeats 1000000 in
theorem szSpace_any (D : SpaceD) (a : Option Addr) (c left : Nat) (w : World) (hn : D.S.length ≤ maxLen) (hl : left ≤ 1048576) :
    Calls Try.prog 4 #[spaceV D a c, .int .i64 left] w fun e w' => szQ left D.S.length e ∧ Below w.heap.size w w' := by
  have H := hide (szSentS_any a D.S.length c left)
  have B0 := hide ((Below.refl w.heap.size w).alloc (Nat.le_refl _) (.cells (spaceC D a c).toArray 26))
  go_enter Try.func4, Try.ntmps4
  go_wp2_with fail
  refine (unhide H _ hn hl).mono ?_
  rintro e w1 ⟨hz, h9⟩
  rw [h9]
  clear h9 w1
  rcases hz with rfl | ⟨r, rfl, hr, hm⟩
  · go_wp2
    go_ret
    exact ⟨Or.inl rfl, unhide B0⟩
  · have h0 : ¬ (r : Int) < 0 := by omega
    go_wp2
    go_ret
    exact ⟨Or.inr ⟨r, rfl, hr, hm⟩, unhide B0⟩
set_option maxHeartbeats 4000000 in
theorem toSpace_any (D : SpaceD) (a : Option Addr) (c : Nat) (w : World) (hm : D.S.length ≤ 1048576) (h : RdSpace w a D) :
    Calls Try.prog 7 #[spaceV D a c] w fun e w' => ∃ g, e = .returned (spaceV D (some ⟨g, 0, none⟩) D.S.length) ∧ Ri sentK w.heap.size w'.heap.size w' (some ⟨g, 0, none⟩) D.S ∧ Below w.heap.size w w' := by
  have HS := hide (fun W (b : Below w.heap.size w W) => toSentS_any a c D.S W hm (h.below b))
  have HR := hide (toRtt_any D.r)
  clear h
  obtain ⟨V0, hV0⟩ : ∃ V, V = ((w.alloc (.cells (spaceC D a c).toArray 26)).alloc (.cells spaceZ.toArray 33)).alloc (.cells spaceZ.toArray 33) := ⟨_, rfl⟩
  have A0 : Bx V0 w.heap.size (spaceC D a c) := by rw [hV0]; exact ((Bx.new w _ _).alloc _).alloc _
  have R0 : Bx V0 (w.heap.size + 1) spaceZ := by rw [hV0]; exact (Bx.newAt (w.alloc _) _ _ _ (by simp)).alloc _
  have O0 : Bx V0 (w.heap.size + 1 + 1) spaceZ := by rw [hV0]; exact Bx.newAt ((w.alloc _).alloc _) _ _ _ (by simp)
  have B0 : Below w.heap.size w V0 := by rw [hV0]; exact (((Below.refl w.heap.size w).alloc (Nat.le_refl _) _).alloc (by simp) _).alloc (by simp; omega) _
  have z0 : V0.heap.size = w.heap.size + 1 + 1 + 1 := by rw [hV0]; simp
  obtain ⟨V1, hV1⟩ : ∃ V, V = V0.setCell ⟨w.heap.size + 1 + 1, 0, none⟩ (.int .i64 D.lg) := ⟨_, rfl⟩
  have A1 := hide (show Bx V1 w.heap.size (spaceC D a c) by rw [hV1]; exact A0.other (by omega))
  have R1 := hide (show Bx V1 (w.heap.size + 1) spaceZ by rw [hV1]; exact R0.other (by omega))
  have O1 := hide (show Bx V1 (w.heap.size + 1 + 1) [.int .i64 D.lg, .slice none 0 0, .bool false, .int .i64 0, .int .i64 0, .int .i64 0, .int .i64 0] by rw [hV1]; exact O0.set (i := 0) (by simp))
  have B1 := hide (show Below w.heap.size w V1 by rw [hV1]; exact B0.setCell (by simp; omega) _)
  have z1 : w.heap.size + 1 + 1 + 1 ≤ V1.heap.size := by rw [hV1]; simp; omega
  have HV0 := hide hV0
  have HV1 := hide hV1
  have a0 := A0.cv
  have o0 := O0.cv
  have f0 := O0.fz
  have l0 := O0.lt
  clear A0 R0 O0 B0 z0 hV0 hV1
  go_enter Try.func7, Try.ntmps7
  go_upto_region 2 with fail
  rw [← unhide HV0]
  clear HV0
  go_wp2_with fail
  rw [← unhide HV1]
  clear HV1 a0 o0 f0 l0
  refine (unhide HS _ (unhide B1)).mono ?_
  rintro e w2 ⟨g, rfl, i2, b2⟩
  have A2 := (unhide A1).below b2
  have R2 := (unhide R1).below b2
  have O2 := (unhide O1).below b2
  have B2 := (unhide B1).trans (b2.mono (unhide B1).size)
  have I2 := hide (i2.mono (lb' := w.heap.size + 1 + 1 + 1) z1 (Nat.le_refl _))
  have z2 : V1.heap.size ≤ w2.heap.size := b2.size
  obtain ⟨V2, hV2⟩ : ∃ V, V = w2.setCell ⟨w.heap.size + 1 + 1, 1, none⟩ (.slice (some ⟨g, 0, none⟩) D.S.length D.S.length) := ⟨_, rfl⟩
  have R3 := hide (show Bx V2 (w.heap.size + 1) spaceZ by rw [hV2]; exact R2.other (by omega))
  have O3 := hide (show Bx V2 (w.heap.size + 1 + 1) [.int .i64 D.lg, .slice (some ⟨g, 0, none⟩) D.S.length D.S.length, .bool false, .int .i64 0, .int .i64 0, .int .i64 0, .int .i64 0] by rw [hV2]; exact O2.set (i := 1) (by simp))
  have A3 := hide (show Bx V2 w.heap.size (spaceC D a c) by rw [hV2]; exact A2.other (by omega))
  have B3 := hide (show Below w.heap.size w V2 by rw [hV2]; exact B2.setCell (by simp; omega) _)
  have K3 := hide (show Kq (fun q => q < w.heap.size + 1 + 1 + 1) w2 V2 by rw [hV2]; exact (Kq.refl _ _).set (by simp))
  have HV2 := hide hV2
  have a2 := A2.cv
  have o2 := O2.cv
  have f2 := O2.fz
  have l2 := O2.lt
  clear A2 R2 O2 B2 i2 b2 hV2 A1 R1 O1 B1 HS
  go_wp2_with fail
  rw [← unhide HV2]
  clear HV2 a2 o2 f2 l2
  refine (unhide HR _).mono ?_
  rintro e w3 ⟨rfl, b3⟩
  have r4 := ((unhide R3).below b3).cv
  have r4f := ((unhide R3).below b3).fz
  have r4l := ((unhide R3).below b3).lt
  have o4 := ((unhide O3).below b3).cv
  have o4f := ((unhide O3).below b3).fz
  have o4l := ((unhide O3).below b3).lt
  have B4 := hide ((unhide B3).trans (b3.mono (unhide B3).size))
  have K4 := hide ((unhide K3).trans (Kq.of b3))
  have FIN : Hid (∀ W9, Kq (fun q => q < w.heap.size + 1 + 1 + 1) w2 W9 → Ri sentK w.heap.size W9.heap.size W9 (some ⟨g, 0, none⟩) D.S) := fun W9 k => ((unhide I2).kq k (fun q hq => Or.inl hq)).mono (by omega) k.size
  clear b3 A3 R3 O3 B3 K3 I2
  go_wp2
  refine bodyPost_ret (v := spaceV D (some ⟨g, 0, none⟩) D.S.length) (by simp [results, Try.results7, go_sem, r4]) rfl ⟨g, rfl, ?_, ?_⟩
  · refine unhide FIN _ ?_
    iterate 12 refine Kq.set ?_ (by simp <;> omega)
    exact unhide K4
  · iterate 12 refine Below.setCell ?_ (by simp <;> omega) _
    exact unhide B4
set_option maxHeartbeats 2000000 in
theorem eqSpace_same (D : SpaceD) (a a' : Option Addr) (c c' : Nat) (w : World) (hm : D.S.length ≤ 1048576) (h : RdSpace w a D) (h' : RdSpace w a' D) :
    Calls Try.prog 10 #[spaceV D a c, spaceV D a' c'] w fun e w' => e = .returned (.bool true) ∧ Below w.heap.size w w' := by
  have HS := hide (fun W (b : Below w.heap.size w W) => eqSentS_same a a' c c' D.S W hm (h.below b) (h'.below b))
  have HR := hide (eqRtt_same D.r)
  clear h h'
  obtain ⟨V0, hV0⟩ : ∃ V, V = (w.alloc (.cells (spaceC D a c).toArray 33)).alloc (.cells (spaceC D a' c').toArray 33) := ⟨_, rfl⟩
  have A0 := hide (show Bx V0 w.heap.size (spaceC D a c) by rw [hV0]; exact (Bx.new w _ _).alloc _)
  have O0 := hide (show Bx V0 (w.heap.size + 1) (spaceC D a' c') by rw [hV0]; exact Bx.newAt (w.alloc _) _ _ _ (by simp))
  have B0 := hide (show Below w.heap.size w V0 by rw [hV0]; exact ((Below.refl w.heap.size w).alloc (Nat.le_refl _) _).alloc (by simp) _)
  have HV0 := hide hV0
  clear hV0
  go_enter Try.func10, Try.ntmps10
  go_upto_region 1 with fail
  rw [← unhide HV0]
  clear HV0
  have x0 := (unhide A0).cv
  have y0 := (unhide O0).cv
  go_wp2_with fail
  refine (unhide HS _ (unhide B0)).mono ?_
  rintro e w1 ⟨rfl, b1⟩
  have B1 := hide ((unhide B0).trans (b1.mono (unhide B0).size))
  have x1 := ((unhide A0).below b1).cv
  have y1 := ((unhide O0).below b1).cv
  clear b1 x0 y0 A0 O0
  go_wp2_with fail
  refine (unhide HR _).mono ?_
  rintro e w2 ⟨rfl, b2⟩
  have B2 := hide ((unhide B1).trans (b2.mono (unhide B1).size))
  clear b2 x1 y1
  go_wp2
  go_ret
  exact ⟨rfl, unhide B2⟩
set_option maxHeartbeats 1000000 in
theorem markSpace_any (lb ls : Nat) (D : SpaceD) (a : Option Addr) (c k0 : Nat) (w : World) (hn : D.S.length ≤ 1048576) (hk0 : k0 ≤ 100000000) (hw : ls ≤ w.heap.size) (h : Ri sentK lb ls w a D.S) :
    Calls Try.prog 13 #[spaceV D a c, .int .i64 k0] w fun e w' => e = .returned (.int .i64 ((k0 + D.S.length * 3 : Nat) : Int)) ∧ Rm lb ls w' a (D.S.length * 3) (sentM k0) ∧ Kq (fun q => lb ≤ q ∧ q < ls) w w' := by
  have hA := (Below.refl w.heap.size w).alloc (Nat.le_refl _) (.cells (spaceC D a c).toArray 33)
  have H := hide (markSentS_any lb ls a c D.S k0 (w.alloc (.cells (spaceC D a c).toArray 33)) hn hk0 (h.below hA))
  have KA : Hid (Kq (fun q => lb ≤ q ∧ q < ls) w (w.alloc (.cells (spaceC D a c).toArray 33))) := Kq.of hA
  clear h hA
  go_enter Try.func13, Try.ntmps13
  go_wp2_with fail
  refine (unhide H).mono ?_
  rintro e w1 ⟨rfl, m1, q1⟩
  have M1 := hide m1
  have K1 := hide ((unhide KA).trans q1)
  clear m1 q1
  go_wp2
  go_ret
  exact ⟨rfl, unhide M1, unhide K1⟩
set_option maxHeartbeats 1000000 in
theorem heldSpace_any (lb ls : Nat) (D : SpaceD) (a : Option Addr) (c k0 : Nat) (w : World) (hn : D.S.length ≤ 1048576) (hk0 : k0 ≤ 100000000) (h : Rm lb ls w a (D.S.length * 3) (sentM k0)) :
    Calls Try.prog 16 #[spaceV D a c, .int .i64 k0] w fun e w' => e = .returned (.int .i64 ((k0 + D.S.length * 3 : Nat) : Int)) ∧ Below w.heap.size w w' := by
  have hA := (Below.refl w.heap.size w).alloc (Nat.le_refl _) (.cells (spaceC D a c).toArray 33)
  have H := hide (heldSentS_any lb ls a D.S.length c k0 (w.alloc (.cells (spaceC D a c).toArray 33)) hn hk0 (h.below hA))
  have BA := hide hA
  clear h hA
  generalize k0 + D.S.length * 3 = k1 at *
  have h0 : ¬ (k1 : Int) < 0 := by omega
  go_enter Try.func16, Try.ntmps16
  go_wp2_with fail
  refine (unhide H).mono ?_
  rintro e w1 ⟨rfl, b1⟩
  have B1 := hide ((unhide BA).trans (b1.mono (unhide BA).size))
  clear b1
  go_wp2
  go_ret
  exact ⟨rfl, unhide B1⟩
end Go.Proofs.Ytianpcipipdokaa.Rc
