/-
  impl.Inflow: the laws' copies of it, what it weighs, how it is held against another, marked.
-/
import Derived.Test.YtehkfbkofgkcjaaRcPiece
import Derived.Deep.DeepCutAuto
namespace Go.Proofs.Ytehkfbkofgkcjaa.Rc
open Go.ChangeShapes Go.WideShapes Go.ChangeAt Go.RowKit Go.Deep
set_option linter.unusedVariables false
set_option maxRecDepth 100000

structure InflowD where
  li : Int
  re : Int
  fi : Int
  P : List PieceD
/-- its cells -/
abbrev inflowC (D : InflowD) (a : Option Addr) (c : Nat) : List Value := [.int .i64 D.li, .int .i64 D.re, .int .i64 D.fi, .slice a D.P.length c]
/-- as a value -/
abbrev inflowV (D : InflowD) (a : Option Addr) (c : Nat) : Value := .agg #[.int .i64 D.li, .int .i64 D.re, .int .i64 D.fi, .slice a D.P.length c]
/-- it lies there, to be read -/
abbrev RdInflow (W : World) (a : Option Addr) (D : InflowD) : Prop := Rd pieceK W a D.P
abbrev inflowZ : List Value := [.int .i64 0, .int .i64 0, .int .i64 0, .slice none 0 0]
set_option maxHeartbeats 2000000 in
theorem eqInflow_same (D : InflowD) (a a' : Option Addr) (c c' : Nat) (w : World) (hm : D.P.length ≤ 1048576) (h : RdInflow w a D) (h' : RdInflow w a' D) :
    Calls Try.prog 11 #[inflowV D a c, inflowV D a' c'] w fun e w' => e = .returned (.bool true) ∧ Below w.heap.size w w' := by
  have HS := hide (fun W (b : Below w.heap.size w W) => eqPieceS_same a a' c c' D.P W hm (h.below b) (h'.below b))
  clear h h'
  obtain ⟨V0, hV0⟩ : ∃ V, V = (w.alloc (.cells (inflowC D a c).toArray 24)).alloc (.cells (inflowC D a' c').toArray 24) := ⟨_, rfl⟩
  have A0 := hide (show Bx V0 w.heap.size (inflowC D a c) by rw [hV0]; exact (Bx.new w _ _).alloc _)
  have O0 := hide (show Bx V0 (w.heap.size + 1) (inflowC D a' c') by rw [hV0]; exact Bx.newAt (w.alloc _) _ _ _ (by simp))
  have B0 := hide (show Below w.heap.size w V0 by rw [hV0]; exact ((Below.refl w.heap.size w).alloc (Nat.le_refl _) _).alloc (by simp) _)
  have HV0 := hide hV0
  clear hV0
  go_enter Try.func11, Try.ntmps11
  go_upto_region 1 with fail
  rw [← unhide HV0]
  clear HV0
  have x0 := (unhide A0).cv
  have x0l := (unhide A0).lt
  have y0 := (unhide O0).cv
  have y0l := (unhide O0).lt
  go_wp2_with fail
  refine (unhide HS _ (unhide B0)).mono ?_
  rintro e w1 ⟨rfl, b1⟩
  have B1 := hide ((unhide B0).trans (b1.mono (unhide B0).size))
  clear b1 x0 y0 x0l y0l A0 O0
  go_wp2
  go_ret
  exact ⟨rfl, unhide B1⟩
set_option maxHeartbeats 1000000 in
theorem markInflow_any (lb ls : Nat) (D : InflowD) (a : Option Addr) (c k0 : Nat) (w : World) (hn : D.P.length ≤ 1048576) (hk1 : 1 ≤ k0) (hk0 : k0 ≤ 100000000) (h : Ri pieceK lb ls w a D.P) :
    Calls Try.prog 12 #[inflowV D a c, .int .i64 k0] w fun e w' => e = .returned (.int .i64 ((k0 + D.P.length * 2 : Nat) : Int)) ∧ Rm lb ls w' a (D.P.length * 2) (pieceM k0) ∧ Kq (fun q => lb ≤ q ∧ q < ls) w w' := by
  obtain ⟨V0, hV0⟩ : ∃ V, V = w.alloc (.cells (inflowC D a c).toArray 24) := ⟨_, rfl⟩
  have hA : Below w.heap.size w V0 := by rw [hV0]; exact (Below.refl w.heap.size w).alloc (Nat.le_refl _) _
  have A0 := (show Bx V0 w.heap.size (inflowC D a c) by rw [hV0]; exact Bx.new w _ _)
  have a0 := A0.cv
  have a0l := A0.lt
  have H := hide (markPieceS_any lb ls a c D.P k0 V0 hn hk1 hk0 (h.below hA))
  have KA : Hid (Kq (fun q => lb ≤ q ∧ q < ls) w V0) := Kq.of hA
  have HV0 := hide hV0
  clear h hA hV0 A0
  go_enter Try.func12, Try.ntmps12
  go_upto_region 1 with fail
  rw [← unhide HV0]
  clear HV0
  go_wp2_with fail
  refine (unhide H).mono ?_
  rintro e w1 ⟨rfl, m1, q1⟩
  have M1 := hide m1
  have K1 := hide ((unhide KA).trans q1)
  clear m1 q1
  go_wp2
  go_ret
  exact ⟨rfl, unhide M1, unhide K1⟩
set_option maxHeartbeats 1000000 in
theorem heldInflow_any (lb ls : Nat) (D : InflowD) (a : Option Addr) (c k0 : Nat) (w : World) (hn : D.P.length ≤ 1048576) (hk1 : 1 ≤ k0) (hk0 : k0 ≤ 100000000) (h : Rm lb ls w a (D.P.length * 2) (pieceM k0)) :
    Calls Try.prog 13 #[inflowV D a c, .int .i64 k0] w fun e w' => e = .returned (.int .i64 ((k0 + D.P.length * 2 : Nat) : Int)) ∧ Below w.heap.size w w' := by
  obtain ⟨V0, hV0⟩ : ∃ V, V = w.alloc (.cells (inflowC D a c).toArray 24) := ⟨_, rfl⟩
  have hA : Below w.heap.size w V0 := by rw [hV0]; exact (Below.refl w.heap.size w).alloc (Nat.le_refl _) _
  have A0 := (show Bx V0 w.heap.size (inflowC D a c) by rw [hV0]; exact Bx.new w _ _)
  have a0 := A0.cv
  have a0l := A0.lt
  have H := hide (heldPieceS_any lb ls a D.P.length c k0 V0 hn hk1 hk0 (h.below hA))
  have BA := hide hA
  have HV0 := hide hV0
  clear h hA hV0 A0
  generalize k0 + D.P.length * 2 = k1 at *
  have h0 : ¬ (k1 : Int) < 0 := by omega
  go_enter Try.func13, Try.ntmps13
  go_upto_region 1 with fail
  rw [← unhide HV0]
  clear HV0
  go_wp2_with fail
  refine (unhide H).mono ?_
  rintro e w1 ⟨rfl, b1⟩
  have B1 := hide ((unhide BA).trans (b1.mono (unhide BA).size))
  clear b1
  go_wp2
  go_ret
  exact ⟨rfl, unhide B1⟩
end Go.Proofs.Ytehkfbkofgkcjaa.Rc
