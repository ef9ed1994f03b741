/-
  Contracts: changes of a window, of the program: whether they fit, what they make of it, and changed behind the interface.
-/
import Derived.Test.YtpjpmlopmknllaaWnd
import Derived.Test.YtpjpmlopmknllaaOpWindow
import Derived.Deep.RegionLaw
import Derived.Deep.DeepCutAuto
namespace Go.Proofs.Ytpjpmlopmknllaa.Rc
open Go.ChangeShapes Go.WideShapes Go.ChangeAt Go.RowKit Go.Deep
set_option linter.unusedVariables false
set_option maxRecDepth 100000

theorem btx (lo n hi : Int) (w : World) :
    Calls Try.prog 27 #[.int .i64 lo, .int .i64 n, .int .i64 hi] w fun e w' => e = .returned (.bool (decide (lo ≤ n) && decide (n ≤ hi))) ∧ w' = w := by
  by_cases h : lo ≤ n
  · have h1 : decide (lo ≤ n) = true := by simpa using h
    go_enter Try.func27, Try.ntmps27
    go_wp2
    go_ret
    exact ⟨by rw [h1]; rfl, rfl⟩
  · have h1 : decide (lo ≤ n) = false := by simpa using h
    go_enter Try.func27, Try.ntmps27
    go_wp2
    go_ret
    exact ⟨rfl, rfl⟩
theorem implTx (n : Int) (w : World) : Calls Try.prog 58 #[.int .i64 n] w fun e w' => e = .returned (.bool (tkB n)) ∧ w' = w := by
  have H := hide (btx 0 n 1000000000)
  go_enter Try.func58, Try.ntmps58
  go_wp2_with fail
  refine (unhide H _).mono ?_
  rintro e w1 ⟨rfl, h9⟩
  rw [h9]
  clear h9 w1
  go_wp2
  go_ret
  exact ⟨rfl, rfl⟩
theorem implWd (n : Int) (w : World) : Calls Try.prog 26 #[.int .i64 n] w fun e w' => e = .returned (.bool (wiB n 2400 100000000)) ∧ w' = w := by
  have H := hide (btx 2400 n 100000000)
  go_enter Try.func26, Try.ntmps26
  go_wp2_with fail
  refine (unhide H _).mono ?_
  rintro e w1 ⟨rfl, h9⟩
  rw [h9]
  clear h9 w1
  go_wp2
  go_ret
  exact ⟨rfl, rfl⟩
theorem implSz (n : Int) (w : World) : Calls Try.prog 57 #[.int .i64 n] w fun e w' => e = .returned (.bool (wsB n)) ∧ w' = w := by
  have H := hide (btx 0 n 1500)
  go_enter Try.func57, Try.ntmps57
  go_wp2_with fail
  refine (unhide H _).mono ?_
  rintro e w1 ⟨rfl, h9⟩
  rw [h9]
  clear h9 w1
  go_wp2
  go_ret
  exact ⟨rfl, rfl⟩
set_option maxHeartbeats 2000000 in
theorem goodW (D : WindowD) (w : World) : Calls Try.prog 8 #[windowV D] w fun e w' => e = .returned (.bool (wgB D)) ∧ Below w.heap.size w w' := by
  have HE : Hid (wgB D = (wiB D.f0 2400 100000000 && (wiB D.f1 2400 100000000 && ((decide (-1 ≤ D.f2) && decide (D.f2 ≤ 1000000000)) && (decide (0 ≤ D.f3) && decide (D.f3 ≤ 100000000)))))) := rfl
  have I0 := hide (implWd D.f0)
  have I1 := hide (implWd D.f1)
  have I2 := hide (btx (-1) D.f2 1000000000)
  have I3 := hide (btx 0 D.f3 100000000)
  generalize wiB D.f0 2400 100000000 = r0 at *
  generalize wiB D.f1 2400 100000000 = r1 at *
  generalize (decide (-1 ≤ D.f2) && decide (D.f2 ≤ 1000000000)) = r2 at *
  generalize (decide (0 ≤ D.f3) && decide (D.f3 ≤ 100000000)) = r3 at *
  rw [unhide HE]
  clear HE
  obtain ⟨f0, f1, f2, f3⟩ := D
  cases r0 with
  | false =>
    go_enter Try.func8, Try.ntmps8
    go_wp2_with (first | (go_at_call 26; (with_reducible refine (unhide I0 _).mono ?_); rintro e w9 ⟨rfl, h9⟩; rw [h9]; clear h9 w9) | (go_at_call 26; (with_reducible refine (unhide I1 _).mono ?_); rintro e w9 ⟨rfl, h9⟩; rw [h9]; clear h9 w9) | (go_at_call 27; (with_reducible refine (unhide I2 _).mono ?_); rintro e w9 ⟨rfl, h9⟩; rw [h9]; clear h9 w9) | (go_at_call 27; (with_reducible refine (unhide I3 _).mono ?_); rintro e w9 ⟨rfl, h9⟩; rw [h9]; clear h9 w9))
    go_ret
    exact ⟨rfl, (Below.refl _ _).alloc (Nat.le_refl _) _⟩
  | true =>
  cases r1 with
  | false =>
    go_enter Try.func8, Try.ntmps8
    go_wp2_with (first | (go_at_call 26; (with_reducible refine (unhide I0 _).mono ?_); rintro e w9 ⟨rfl, h9⟩; rw [h9]; clear h9 w9) | (go_at_call 26; (with_reducible refine (unhide I1 _).mono ?_); rintro e w9 ⟨rfl, h9⟩; rw [h9]; clear h9 w9) | (go_at_call 27; (with_reducible refine (unhide I2 _).mono ?_); rintro e w9 ⟨rfl, h9⟩; rw [h9]; clear h9 w9) | (go_at_call 27; (with_reducible refine (unhide I3 _).mono ?_); rintro e w9 ⟨rfl, h9⟩; rw [h9]; clear h9 w9))
    go_ret
    exact ⟨rfl, (Below.refl _ _).alloc (Nat.le_refl _) _⟩
  | true =>
  cases r2 with
  | false =>
    go_enter Try.func8, Try.ntmps8
    go_wp2_with (first | (go_at_call 26; (with_reducible refine (unhide I0 _).mono ?_); rintro e w9 ⟨rfl, h9⟩; rw [h9]; clear h9 w9) | (go_at_call 26; (with_reducible refine (unhide I1 _).mono ?_); rintro e w9 ⟨rfl, h9⟩; rw [h9]; clear h9 w9) | (go_at_call 27; (with_reducible refine (unhide I2 _).mono ?_); rintro e w9 ⟨rfl, h9⟩; rw [h9]; clear h9 w9) | (go_at_call 27; (with_reducible refine (unhide I3 _).mono ?_); rintro e w9 ⟨rfl, h9⟩; rw [h9]; clear h9 w9))
    go_ret
    exact ⟨rfl, (Below.refl _ _).alloc (Nat.le_refl _) _⟩
  | true =>
  go_enter Try.func8, Try.ntmps8
  go_wp2_with (first | (go_at_call 26; (with_reducible refine (unhide I0 _).mono ?_); rintro e w9 ⟨rfl, h9⟩; rw [h9]; clear h9 w9) | (go_at_call 26; (with_reducible refine (unhide I1 _).mono ?_); rintro e w9 ⟨rfl, h9⟩; rw [h9]; clear h9 w9) | (go_at_call 27; (with_reducible refine (unhide I2 _).mono ?_); rintro e w9 ⟨rfl, h9⟩; rw [h9]; clear h9 w9) | (go_at_call 27; (with_reducible refine (unhide I3 _).mono ?_); rintro e w9 ⟨rfl, h9⟩; rw [h9]; clear h9 w9))
  go_ret
  exact ⟨rfl, (Below.refl _ _).alloc (Nat.le_refl _) _⟩
theorem implWG (D : WindowD) (o : okWindow D) (w : World) : Calls Try.prog 8 #[windowV D] w fun e w' => e = .returned (.bool (wgB D)) ∧ Below w.heap.size w w' := goodW D w
set_option maxHeartbeats 2000000 in
theorem fits_s (n : Int) (D : WindowD) (hg : wgB D = true) (w : World) : Calls Try.prog 62 #[.agg #[.int .i64 n], windowV D] w fun e w' => e = .returned (.bool (wsB n && decide (D.f3 + n ≤ D.f0))) ∧ Below w.heap.size w w' := by
  obtain ⟨V0, hV0⟩ : ∃ V, V = ((w.alloc (.cells #[.int .i64 n] 60)).alloc (.cells (windowC D).toArray 24)) := ⟨_, rfl⟩
  have X0 : Bx V0 w.heap.size [.int .i64 n] := by rw [hV0]; exact (Bx.new w [.int .i64 n] _).alloc _
  have Y0 : Bx V0 (w.heap.size + 1) (windowC D) := by rw [hV0]; exact Bx.newAt (w.alloc _) _ _ _ (by simp)
  have B0 : Below w.heap.size w V0 := by rw [hV0]; exact ((Below.refl w.heap.size w).alloc (Nat.le_refl _) _).alloc (by simp) _
  have HV0 := hide hV0
  clear hV0
  have HS := hide (implSz n)
  have B0h := hide B0
  clear B0
  have x0 := X0.cv
  have y0 := Y0.cv
  clear X0 Y0
  obtain ⟨⟨a0, a1⟩, ⟨b0, b1⟩, ⟨c0, c1⟩, ⟨d0, d1⟩⟩ := wg_in hg
  clear hg
  obtain ⟨f0, f1, f2, f3⟩ := D
  dsimp only at *
  cases e1 : wsB n with
  | false =>
    rw [e1] at HS
    clear e1
    go_enter Try.func62, Try.ntmps62
    go_upto_region 1 with fail
    rw [← unhide HV0]
    clear HV0
    go_wp2_with (first | (go_at_call 57; (with_reducible refine (unhide HS _).mono ?_); rintro e w9 ⟨rfl, h9⟩; rw [h9]; clear h9 w9))
    go_ret
    exact ⟨rfl, unhide B0h⟩
  | true =>
    obtain ⟨n0, n1⟩ := wiB_yes e1
    rw [e1] at HS
    clear e1
    go_enter Try.func62, Try.ntmps62
    go_upto_region 1 with fail
    rw [← unhide HV0]
    clear HV0
    go_wp2_with (first | (go_at_call 57; (with_reducible refine (unhide HS _).mono ?_); rintro e w9 ⟨rfl, h9⟩; rw [h9]; clear h9 w9))
    go_ret
    exact ⟨rfl, unhide B0h⟩
set_option maxHeartbeats 2000000 in
theorem fits_l (n t : Int) (D : WindowD) (w : World) : Calls Try.prog 55 #[.agg #[.int .i64 n, .int .i64 t], windowV D] w fun e w' => e = .returned (.bool (wsB n && (tkB t && decide (n ≤ D.f3)))) ∧ Below w.heap.size w w' := by
  obtain ⟨V0, hV0⟩ : ∃ V, V = ((w.alloc (.cells #[.int .i64 n, .int .i64 t] 53)).alloc (.cells (windowC D).toArray 24)) := ⟨_, rfl⟩
  have X0 : Bx V0 w.heap.size [.int .i64 n, .int .i64 t] := by rw [hV0]; exact (Bx.new w [.int .i64 n, .int .i64 t] _).alloc _
  have Y0 : Bx V0 (w.heap.size + 1) (windowC D) := by rw [hV0]; exact Bx.newAt (w.alloc _) _ _ _ (by simp)
  have B0 : Below w.heap.size w V0 := by rw [hV0]; exact ((Below.refl w.heap.size w).alloc (Nat.le_refl _) _).alloc (by simp) _
  have HV0 := hide hV0
  clear hV0
  have HS := hide (implSz n)
  have HT := hide (implTx t)
  have B0h := hide B0
  clear B0
  have x0 := X0.cv
  have y0 := Y0.cv
  clear X0 Y0
  obtain ⟨f0, f1, f2, f3⟩ := D
  dsimp only at *
  generalize wsB n = r0 at *
  generalize tkB t = r1 at *
  cases r0 with
  | false =>
    go_enter Try.func55, Try.ntmps55
    go_upto_region 1 with fail
    rw [← unhide HV0]
    clear HV0
    go_wp2_with (first | (go_at_call 57; (with_reducible refine (unhide HS _).mono ?_); rintro e w9 ⟨rfl, h9⟩; rw [h9]; clear h9 w9) | (go_at_call 58; (with_reducible refine (unhide HT _).mono ?_); rintro e w9 ⟨rfl, h9⟩; rw [h9]; clear h9 w9))
    go_ret
    exact ⟨rfl, unhide B0h⟩
  | true =>
  cases r1 with
  | false =>
    go_enter Try.func55, Try.ntmps55
    go_upto_region 1 with fail
    rw [← unhide HV0]
    clear HV0
    go_wp2_with (first | (go_at_call 57; (with_reducible refine (unhide HS _).mono ?_); rintro e w9 ⟨rfl, h9⟩; rw [h9]; clear h9 w9) | (go_at_call 58; (with_reducible refine (unhide HT _).mono ?_); rintro e w9 ⟨rfl, h9⟩; rw [h9]; clear h9 w9))
    go_ret
    exact ⟨rfl, unhide B0h⟩
  | true =>
  go_enter Try.func55, Try.ntmps55
  go_upto_region 1 with fail
  rw [← unhide HV0]
  clear HV0
  go_wp2_with (first | (go_at_call 57; (with_reducible refine (unhide HS _).mono ?_); rintro e w9 ⟨rfl, h9⟩; rw [h9]; clear h9 w9) | (go_at_call 58; (with_reducible refine (unhide HT _).mono ?_); rintro e w9 ⟨rfl, h9⟩; rw [h9]; clear h9 w9))
  go_ret
  exact ⟨rfl, unhide B0h⟩
set_option maxHeartbeats 2000000 in
theorem fits_x (n t now : Int) (D : WindowD) (w : World) : Calls Try.prog 59 #[.agg #[.int .i64 n, .int .i64 t, .int .i64 now], windowV D] w fun e w' => e = .returned (.bool ((wsB n && (tkB t && decide (n ≤ D.f3))) && tkB now)) ∧ Below w.heap.size w w' := by
  obtain ⟨V0, hV0⟩ : ∃ V, V = ((w.alloc (.cells #[.int .i64 n, .int .i64 t, .int .i64 now] 55)).alloc (.cells (windowC D).toArray 24)) := ⟨_, rfl⟩
  have X0 : Bx V0 w.heap.size [.int .i64 n, .int .i64 t, .int .i64 now] := by rw [hV0]; exact (Bx.new w [.int .i64 n, .int .i64 t, .int .i64 now] _).alloc _
  have Y0 : Bx V0 (w.heap.size + 1) (windowC D) := by rw [hV0]; exact Bx.newAt (w.alloc _) _ _ _ (by simp)
  have B0 : Below w.heap.size w V0 := by rw [hV0]; exact ((Below.refl w.heap.size w).alloc (Nat.le_refl _) _).alloc (by simp) _
  have HV0 := hide hV0
  clear hV0
  have HF := hide (fits_l n t D)
  have HT := hide (implTx now)
  generalize (wsB n && (tkB t && decide (n ≤ D.f3))) = r0 at *
  generalize tkB now = r1 at *
  have x0 := X0.cv
  have y0 := Y0.cv
  cases r0 with
  | false =>
    have B0h := hide B0
    clear B0
    go_enter Try.func59, Try.ntmps59
    go_upto_region 1 with fail
    rw [← unhide HV0]
    clear HV0
    go_wp2_with fail
    refine (unhide HF _).mono ?_
    rintro e w1 ⟨rfl, b1⟩
    have x1 := (X0.below b1).cv
    have B1 := hide ((unhide B0h).trans (b1.mono (unhide B0h).size))
    clear b1 x0 y0 X0 Y0 B0h
    go_wp2_with (first | (go_at_call 58; (with_reducible refine (unhide HT _).mono ?_); rintro e w9 ⟨rfl, h9⟩; rw [h9]; clear h9 w9))
    go_ret
    exact ⟨rfl, unhide B1⟩
  | true =>
  have B0h := hide B0
  clear B0
  go_enter Try.func59, Try.ntmps59
  go_upto_region 1 with fail
  rw [← unhide HV0]
  clear HV0
  go_wp2_with fail
  refine (unhide HF _).mono ?_
  rintro e w1 ⟨rfl, b1⟩
  have x1 := (X0.below b1).cv
  have B1 := hide ((unhide B0h).trans (b1.mono (unhide B0h).size))
  clear b1 x0 y0 X0 Y0 B0h
  go_wp2_with (first | (go_at_call 58; (with_reducible refine (unhide HT _).mono ?_); rintro e w9 ⟨rfl, h9⟩; rw [h9]; clear h9 w9))
  go_ret
  exact ⟨rfl, unhide B1⟩
theorem fits_w (D : WindowD) (w : World) : Calls Try.prog 64 #[.agg #[], windowV D] w fun e w' => e = .returned (.bool true) ∧ Below w.heap.size w w' := by
  go_enter Try.func64, Try.ntmps64
  go_wp2
  go_ret
  exact ⟨rfl, ((Below.refl w.heap.size w).alloc (Nat.le_refl _) _).alloc (by simp) _⟩
set_option maxHeartbeats 4000000 in
theorem made_s (n : Int) (D : WindowD) (hg : wgB D = true) (h0 : 0 ≤ n) (h1 : D.f3 + n ≤ D.f0) (w : World) : Calls Try.prog 63 #[.agg #[.int .i64 n], windowV D] w fun e w' => e = .returned (windowV ⟨D.f0, D.f1, D.f2, D.f3 + n⟩) ∧ Below w.heap.size w w' := by
  obtain ⟨V0, hV0⟩ : ∃ V, V = ((w.alloc (.cells #[.int .i64 n] 60)).alloc (.cells (windowC D).toArray 24)).alloc (.cells #[.int .i64 0, .int .i64 0, .int .i64 0, .int .i64 0] 24) := ⟨_, rfl⟩
  have X0 : Bx V0 w.heap.size [.int .i64 n] := by rw [hV0]; exact ((Bx.new w [.int .i64 n] _).alloc _).alloc _
  have Y0 : Bx V0 (w.heap.size + 1) (windowC D) := by rw [hV0]; exact (Bx.newAt (w.alloc _) _ _ _ (by simp)).alloc _
  have Z0 : Bx V0 (w.heap.size + 1 + 1) [.int .i64 0, .int .i64 0, .int .i64 0, .int .i64 0] := by rw [hV0]; exact Bx.newAt ((w.alloc _).alloc _) _ _ _ (by simp)
  have B0 : Below w.heap.size w V0 := by rw [hV0]; exact (((Below.refl w.heap.size w).alloc (Nat.le_refl _) _).alloc (by simp) _).alloc (by simp; omega) _
  have HV0 := hide hV0
  clear hV0
  have B0h := hide B0
  clear B0
  have x0 := X0.cv
  have y0 := Y0.cv
  have y0f := Y0.fz
  have y0l := Y0.lt
  have z0 := Z0.cv
  have z0f := Z0.fz
  have z0l := Z0.lt
  clear X0 Y0 Z0
  obtain ⟨⟨a0, a1⟩, ⟨b0, b1⟩, ⟨c0, c1⟩, ⟨d0, d1⟩⟩ := wg_in hg
  clear hg
  obtain ⟨f0, f1, f2, f3⟩ := D
  dsimp only at *
  go_enter Try.func63, Try.ntmps63
  go_upto_region 1 with fail
  rw [← unhide HV0]
  clear HV0
  go_wp2
  refine bodyPost_ret (v := .agg #[.int .i64 f0, .int .i64 f1, .int .i64 f2, .int .i64 (f3 + n)]) (by simp [results, Try.results63, go_sem, z0]) rfl ⟨rfl, ?_⟩
  repeat (refine Below.setCell ?_ (by simp <;> omega) _)
  exact unhide B0h
set_option maxHeartbeats 4000000 in
theorem made_l (n t : Int) (D : WindowD) (h0 : 0 ≤ n) (h1 : n ≤ D.f3) (h2 : D.f3 ≤ 100000000) (w : World) : Calls Try.prog 56 #[.agg #[.int .i64 n, .int .i64 t], windowV D] w fun e w' => e = .returned (windowV ⟨D.f0, D.f1, D.f2, D.f3 - n⟩) ∧ Below w.heap.size w w' := by
  obtain ⟨V0, hV0⟩ : ∃ V, V = ((w.alloc (.cells #[.int .i64 n, .int .i64 t] 53)).alloc (.cells (windowC D).toArray 24)).alloc (.cells #[.int .i64 0, .int .i64 0, .int .i64 0, .int .i64 0] 24) := ⟨_, rfl⟩
  have X0 : Bx V0 w.heap.size [.int .i64 n, .int .i64 t] := by rw [hV0]; exact ((Bx.new w [.int .i64 n, .int .i64 t] _).alloc _).alloc _
  have Y0 : Bx V0 (w.heap.size + 1) (windowC D) := by rw [hV0]; exact (Bx.newAt (w.alloc _) _ _ _ (by simp)).alloc _
  have Z0 : Bx V0 (w.heap.size + 1 + 1) [.int .i64 0, .int .i64 0, .int .i64 0, .int .i64 0] := by rw [hV0]; exact Bx.newAt ((w.alloc _).alloc _) _ _ _ (by simp)
  have B0 : Below w.heap.size w V0 := by rw [hV0]; exact (((Below.refl w.heap.size w).alloc (Nat.le_refl _) _).alloc (by simp) _).alloc (by simp; omega) _
  have HV0 := hide hV0
  clear hV0
  have B0h := hide B0
  clear B0
  have x0 := X0.cv
  have y0 := Y0.cv
  have y0f := Y0.fz
  have y0l := Y0.lt
  have z0 := Z0.cv
  have z0f := Z0.fz
  have z0l := Z0.lt
  clear X0 Y0 Z0

  obtain ⟨f0, f1, f2, f3⟩ := D
  dsimp only at *
  go_enter Try.func56, Try.ntmps56
  go_upto_region 1 with fail
  rw [← unhide HV0]
  clear HV0
  go_wp2
  refine bodyPost_ret (v := .agg #[.int .i64 f0, .int .i64 f1, .int .i64 f2, .int .i64 (f3 - n)]) (by simp [results, Try.results56, go_sem, z0]) rfl ⟨rfl, ?_⟩
  repeat (refine Below.setCell ?_ (by simp <;> omega) _)
  exact unhide B0h
set_option maxHeartbeats 4000000 in
theorem made_w (D : WindowD) (w : World) : Calls Try.prog 65 #[.agg #[], windowV D] w fun e w' => e = .returned (windowV ⟨2400, D.f1, -1, D.f3⟩) ∧ Below w.heap.size w w' := by
  obtain ⟨V0, hV0⟩ : ∃ V, V = ((w.alloc (.cells #[] 62)).alloc (.cells (windowC D).toArray 24)).alloc (.cells #[.int .i64 0, .int .i64 0, .int .i64 0, .int .i64 0] 24) := ⟨_, rfl⟩
  have X0 : Bx V0 w.heap.size [] := by rw [hV0]; exact ((Bx.new w [] _).alloc _).alloc _
  have Y0 : Bx V0 (w.heap.size + 1) (windowC D) := by rw [hV0]; exact (Bx.newAt (w.alloc _) _ _ _ (by simp)).alloc _
  have Z0 : Bx V0 (w.heap.size + 1 + 1) [.int .i64 0, .int .i64 0, .int .i64 0, .int .i64 0] := by rw [hV0]; exact Bx.newAt ((w.alloc _).alloc _) _ _ _ (by simp)
  have B0 : Below w.heap.size w V0 := by rw [hV0]; exact (((Below.refl w.heap.size w).alloc (Nat.le_refl _) _).alloc (by simp) _).alloc (by simp; omega) _
  have HV0 := hide hV0
  clear hV0
  have B0h := hide B0
  clear B0
  have y0 := Y0.cv
  have y0f := Y0.fz
  have y0l := Y0.lt
  have z0 := Z0.cv
  have z0f := Z0.fz
  have z0l := Z0.lt
  clear X0 Y0 Z0
  obtain ⟨f0, f1, f2, f3⟩ := D
  dsimp only at *
  go_enter Try.func65, Try.ntmps65
  go_upto_region 1 with fail
  rw [← unhide HV0]
  clear HV0
  go_wp2
  refine bodyPost_ret (v := .agg #[.int .i64 2400, .int .i64 f1, .int .i64 (-1), .int .i64 f3]) (by simp [results, Try.results65, go_sem, z0]) rfl ⟨rfl, ?_⟩
  repeat (refine Below.setCell ?_ (by simp <;> omega) _)
  exact unhide B0h
theorem news_l (n t : Int) (D : WindowD) (w : World) : Calls Try.prog 61 #[.agg #[.int .i64 n, .int .i64 t], windowV D] w fun e w' => e = .returned (.bool (decide (D.f2 < t))) ∧ Below w.heap.size w w' := by
  obtain ⟨V0, hV0⟩ : ∃ V, V = ((w.alloc (.cells #[.int .i64 n, .int .i64 t] 53)).alloc (.cells (windowC D).toArray 24)) := ⟨_, rfl⟩
  have X0 : Bx V0 w.heap.size [.int .i64 n, .int .i64 t] := by rw [hV0]; exact (Bx.new w [.int .i64 n, .int .i64 t] _).alloc _
  have Y0 : Bx V0 (w.heap.size + 1) (windowC D) := by rw [hV0]; exact Bx.newAt (w.alloc _) _ _ _ (by simp)
  have B0 : Below w.heap.size w V0 := by rw [hV0]; exact ((Below.refl w.heap.size w).alloc (Nat.le_refl _) _).alloc (by simp) _
  have HV0 := hide hV0
  clear hV0
  have x0 := X0.cv
  have y0 := Y0.cv
  have B0h := hide B0
  clear X0 Y0 B0
  obtain ⟨f0, f1, f2, f3⟩ := D
  dsimp only at *
  go_enter Try.func61, Try.ntmps61
  go_upto_region 1 with fail
  rw [← unhide HV0]
  clear HV0
  go_wp2
  go_ret
  exact ⟨rfl, unhide B0h⟩
def gqN (D : WindowD) (n : Int) : Int := if D.f0 < D.f1 then n else 1200 * n / D.f0
set_option maxHeartbeats 2000000 in
theorem growth_a (n t : Int) (D : WindowD) (hg : wgB D = true) (hn : wsB n = true) (w : World) : Calls Try.prog 67 #[.agg #[.int .i64 n, .int .i64 t], windowV D] w fun e w' => e = .returned (.int .i64 (gqN D n)) ∧ Below w.heap.size w w' := by
  obtain ⟨V0, hV0⟩ : ∃ V, V = ((w.alloc (.cells #[.int .i64 n, .int .i64 t] 64)).alloc (.cells (windowC D).toArray 24)) := ⟨_, rfl⟩
  have X0 : Bx V0 w.heap.size [.int .i64 n, .int .i64 t] := by rw [hV0]; exact (Bx.new w [.int .i64 n, .int .i64 t] _).alloc _
  have Y0 : Bx V0 (w.heap.size + 1) (windowC D) := by rw [hV0]; exact Bx.newAt (w.alloc _) _ _ _ (by simp)
  have B0 : Below w.heap.size w V0 := by rw [hV0]; exact ((Below.refl w.heap.size w).alloc (Nat.le_refl _) _).alloc (by simp) _
  have HV0 := hide hV0
  clear hV0
  have x0 := X0.cv
  have y0 := Y0.cv
  have B0h := hide B0
  clear X0 Y0 B0
  obtain ⟨⟨a0, a1⟩, ⟨b0, b1⟩, ⟨c0, c1⟩, ⟨d0, d1⟩⟩ := wg_in hg
  obtain ⟨n0, n1⟩ := wiB_yes hn
  obtain ⟨q0, q1⟩ := gq_in hg hn
  by_cases hl : D.f0 < D.f1
  · have er : gqN D n = n := by unfold gqN; rw [if_pos hl]
    rw [er]
    clear er hg hn q0 q1
    obtain ⟨f0, f1, f2, f3⟩ := D
    dsimp only at *
    go_enter Try.func67, Try.ntmps67
    go_upto_region 1 with fail
    rw [← unhide HV0]
    clear HV0
    go_wp2
    go_ret
    exact ⟨rfl, unhide B0h⟩
  · have er : gqN D n = 1200 * n / D.f0 := by unfold gqN; rw [if_neg hl]
    have dv : Int.tdiv (1200 * n) D.f0 = 1200 * n / D.f0 := Int.tdiv_eq_ediv_of_nonneg (by omega)
    rw [er]
    clear er hg hn
    obtain ⟨f0, f1, f2, f3⟩ := D
    dsimp only at *
    have ne : ¬ f0 = 0 := by omega
    go_enter Try.func67, Try.ntmps67
    go_upto_region 1 with fail
    rw [← unhide HV0]
    clear HV0
    go_wp2
    go_ret
    refine ⟨?_, unhide B0h⟩
    simp
end Go.Proofs.Ytpjpmlopmknllaa.Rc
