/-
  Contracts: windows of the model: good ones, bytes sent, acknowledged, lost, stalled ones, room.
-/
import Derived.Test.YtpjpmlopmknllaaRtt
import Derived.Test.YtpjpmlopmknllaaRcWindow
import Derived.Deep.RegionLaw
namespace Go.Proofs.Ytpjpmlopmknllaa.Rc
open Go.ChangeShapes Go.WideShapes Go.ChangeAt Go.RowKit Go.Deep
set_option linter.unusedVariables false
set_option maxRecDepth 100000

abbrev windowZ : Value := .agg #[.int .i64 0, .int .i64 0, .int .i64 0, .int .i64 0]
abbrev wndZ : WindowD := ⟨0, 0, 0, 0⟩
/-- whether a number lies between two -/
def wiB (n lo hi : Int) : Bool := decide (lo ≤ n) && decide (n ≤ hi)
theorem wiB_yes {n lo hi : Int} (h : wiB n lo hi = true) : lo ≤ n ∧ n ≤ hi := by unfold wiB at h; simpa using h
/-- whether a window is good -/
def wgB (D : WindowD) : Bool := wiB D.f0 2400 100000000 && (wiB D.f1 2400 100000000 && (wiB D.f2 (-1) 1000000000 && wiB D.f3 0 100000000))
theorem wg_in {D : WindowD} (h : wgB D = true) : (2400 ≤ D.f0 ∧ D.f0 ≤ 100000000) ∧ (2400 ≤ D.f1 ∧ D.f1 ≤ 100000000) ∧ (-1 ≤ D.f2 ∧ D.f2 ≤ 1000000000) ∧ (0 ≤ D.f3 ∧ D.f3 ≤ 100000000) := by
  unfold wgB at h
  simp only [Bool.and_eq_true] at h
  exact ⟨wiB_yes h.1, wiB_yes h.2.1, wiB_yes h.2.2.1, wiB_yes h.2.2.2⟩
def wsB (n : Int) : Bool := wiB n 0 1500
/-- bytes sent -/
def sbB (D : WindowD) (n : Int) : Bool := wgB D && (wsB n && decide (D.f3 + n ≤ D.f0))
def sbD (D : WindowD) (n : Int) : Bool → WindowD
  | true => ⟨D.f0, D.f1, D.f2, D.f3 + n⟩
  | false => wndZ
/-- bytes acknowledged -/
def abB (D : WindowD) (n t : Int) : Bool := wgB D && (wsB n && (tkB t && decide (n ≤ D.f3)))
def abG (D : WindowD) (n : Int) : Int := if D.f0 < D.f1 then D.f0 + n else D.f0 + 1200 * n / D.f0
def abS (D : WindowD) (n t : Int) : Int := if D.f2 < t then (if 100000000 < abG D n then 100000000 else abG D n) else D.f0
def abD (D : WindowD) (n t : Int) : Bool → WindowD
  | true => ⟨abS D n t, D.f1, D.f2, D.f3 - n⟩
  | false => wndZ
/-- bytes lost -/
def lbB (D : WindowD) (n t now : Int) : Bool := wgB D && (wsB n && (tkB t && (tkB now && decide (n ≤ D.f3))))
def lbH (D : WindowD) : Int := if D.f0 / 2 < 2400 then 2400 else D.f0 / 2
def lbT (D : WindowD) (n t now : Int) : WindowD := if D.f2 < t then ⟨lbH D, lbH D, now, D.f3 - n⟩ else ⟨D.f0, D.f1, D.f2, D.f3 - n⟩
def lbD (D : WindowD) (n t now : Int) : Bool → WindowD
  | true => lbT D n t now
  | false => wndZ
/-- a stalled one -/
def swD (D : WindowD) : Bool → WindowD
  | true => ⟨2400, D.f1, -1, D.f3⟩
  | false => wndZ
/-- room -/
def riN (D : WindowD) : Bool → Int
  | true => if D.f0 < D.f3 then 0 else D.f0 - D.f3
  | false => 0
def nwD : WindowD := ⟨12000, 100000000, -1, 0⟩
/-- half a window, and what is grown -/
theorem lbH_in {D : WindowD} (h : wgB D = true) : 2400 ≤ lbH D ∧ lbH D ≤ 100000000 := by
  obtain ⟨⟨h0, h1⟩, _⟩ := wg_in h
  unfold lbH
  split <;> omega
theorem gq_in {D : WindowD} {n : Int} (h : wgB D = true) (hn : wsB n = true) : 0 ≤ 1200 * n / D.f0 ∧ 1200 * n / D.f0 ≤ 750 := by
  obtain ⟨⟨h0, h1⟩, _⟩ := wg_in h
  obtain ⟨n0, n1⟩ := wiB_yes hn
  constructor
  · exact Int.ediv_nonneg (by omega) (by omega)
  · have h2 : 1200 * n / D.f0 * D.f0 ≤ 1200 * n := Int.ediv_mul_le _ (by omega)
    have h3 : 0 ≤ 1200 * n / D.f0 := Int.ediv_nonneg (by omega) (by omega)
    generalize 1200 * n / D.f0 = q at *
    have h4 : q * 2400 ≤ q * D.f0 := Int.mul_le_mul_of_nonneg_left h0 h3
    omega
set_option maxHeartbeats 2000000 in
theorem specWg (D : WindowD) (w : World) : Calls Try.prog 23 #[windowV D] w fun e w' => e = .returned (.bool (wgB D)) ∧ Below w.heap.size w w' := by
  have HE : Hid (wgB D = ((decide (2400 ≤ D.f0) && decide (D.f0 ≤ 100000000)) && ((decide (2400 ≤ D.f1) && decide (D.f1 ≤ 100000000)) && ((decide (-1 ≤ D.f2) && decide (D.f2 ≤ 1000000000)) && (decide (0 ≤ D.f3) && decide (D.f3 ≤ 100000000)))))) := rfl
  have I0 := hide (inB D.f0 2400 100000000)
  have I1 := hide (inB D.f1 2400 100000000)
  have I2 := hide (inB D.f2 (-1) 1000000000)
  have I3 := hide (inB D.f3 0 100000000)
  generalize (decide (2400 ≤ D.f0) && decide (D.f0 ≤ 100000000)) = r0 at *
  generalize (decide (2400 ≤ D.f1) && decide (D.f1 ≤ 100000000)) = r1 at *
  generalize (decide (-1 ≤ D.f2) && decide (D.f2 ≤ 1000000000)) = r2 at *
  generalize (decide (0 ≤ D.f3) && decide (D.f3 ≤ 100000000)) = r3 at *
  rw [unhide HE]
  clear HE
  obtain ⟨f0, f1, f2, f3⟩ := D
  cases r0 with
  | false =>
    go_enter Try.func23, Try.ntmps23
    go_wp2_with (first | (go_at_call 35; with_reducible refine (unhide I0 _).mono ?_; rintro e w9 ⟨rfl, h9⟩; rw [h9]; clear h9 w9) | (go_at_call 35; with_reducible refine (unhide I1 _).mono ?_; rintro e w9 ⟨rfl, h9⟩; rw [h9]; clear h9 w9) | (go_at_call 35; with_reducible refine (unhide I2 _).mono ?_; rintro e w9 ⟨rfl, h9⟩; rw [h9]; clear h9 w9) | (go_at_call 35; with_reducible refine (unhide I3 _).mono ?_; rintro e w9 ⟨rfl, h9⟩; rw [h9]; clear h9 w9))
    go_ret
    exact ⟨rfl, (Below.refl _ _).alloc (Nat.le_refl _) _⟩
  | true =>
  cases r1 with
  | false =>
    go_enter Try.func23, Try.ntmps23
    go_wp2_with (first | (go_at_call 35; with_reducible refine (unhide I0 _).mono ?_; rintro e w9 ⟨rfl, h9⟩; rw [h9]; clear h9 w9) | (go_at_call 35; with_reducible refine (unhide I1 _).mono ?_; rintro e w9 ⟨rfl, h9⟩; rw [h9]; clear h9 w9) | (go_at_call 35; with_reducible refine (unhide I2 _).mono ?_; rintro e w9 ⟨rfl, h9⟩; rw [h9]; clear h9 w9) | (go_at_call 35; with_reducible refine (unhide I3 _).mono ?_; rintro e w9 ⟨rfl, h9⟩; rw [h9]; clear h9 w9))
    go_ret
    exact ⟨rfl, (Below.refl _ _).alloc (Nat.le_refl _) _⟩
  | true =>
  cases r2 with
  | false =>
    go_enter Try.func23, Try.ntmps23
    go_wp2_with (first | (go_at_call 35; with_reducible refine (unhide I0 _).mono ?_; rintro e w9 ⟨rfl, h9⟩; rw [h9]; clear h9 w9) | (go_at_call 35; with_reducible refine (unhide I1 _).mono ?_; rintro e w9 ⟨rfl, h9⟩; rw [h9]; clear h9 w9) | (go_at_call 35; with_reducible refine (unhide I2 _).mono ?_; rintro e w9 ⟨rfl, h9⟩; rw [h9]; clear h9 w9) | (go_at_call 35; with_reducible refine (unhide I3 _).mono ?_; rintro e w9 ⟨rfl, h9⟩; rw [h9]; clear h9 w9))
    go_ret
    exact ⟨rfl, (Below.refl _ _).alloc (Nat.le_refl _) _⟩
  | true =>
  go_enter Try.func23, Try.ntmps23
  go_wp2_with (first | (go_at_call 35; with_reducible refine (unhide I0 _).mono ?_; rintro e w9 ⟨rfl, h9⟩; rw [h9]; clear h9 w9) | (go_at_call 35; with_reducible refine (unhide I1 _).mono ?_; rintro e w9 ⟨rfl, h9⟩; rw [h9]; clear h9 w9) | (go_at_call 35; with_reducible refine (unhide I2 _).mono ?_; rintro e w9 ⟨rfl, h9⟩; rw [h9]; clear h9 w9) | (go_at_call 35; with_reducible refine (unhide I3 _).mono ?_; rintro e w9 ⟨rfl, h9⟩; rw [h9]; clear h9 w9))
  go_ret
  exact ⟨rfl, (Below.refl _ _).alloc (Nat.le_refl _) _⟩
theorem specWz (n : Int) (w : World) : Calls Try.prog 24 #[.int .i64 n] w fun e w' => e = .returned (.bool (wsB n)) ∧ w' = w := by
  have H := hide (inB n 0 1500)
  go_enter Try.func24, Try.ntmps24
  go_wp2_with fail
  refine (unhide H _).mono ?_
  rintro e w1 ⟨rfl, h9⟩
  rw [h9]
  clear h9 w1
  go_wp2
  go_ret
  exact ⟨rfl, rfl⟩
set_option maxHeartbeats 8000000 in
theorem specSB (D : WindowD) (n : Int) (w : World) : Calls Try.prog 11 #[windowV D, .int .i64 n] w fun e w' => e = .returned (.tuple #[windowV (sbD D n (sbB D n)), .bool (sbB D n)]) ∧ Below w.heap.size w w' := by
  have HG := hide (specWg D)
  have HS := hide (specWz n)
  have HX := hide ((Bx.new w (windowC D) 24).alloc (.cells #[.int .i64 0, .int .i64 0, .int .i64 0, .int .i64 0] 24))
  have HY := hide (Bx.newAt (w.alloc (.cells (windowC D).toArray 24)) (w.heap.size + 1) [.int .i64 0, .int .i64 0, .int .i64 0, .int .i64 0] 24 (by simp))
  have B0 := hide (((Below.refl w.heap.size w).alloc (Nat.le_refl _) (.cells (windowC D).toArray 24)).alloc (by simp) (.cells #[.int .i64 0, .int .i64 0, .int .i64 0, .int .i64 0] 24))
  cases e0 : wgB D with
  | false =>
    have er : sbB D n = false := by unfold sbB; rw [e0]; rfl
    rw [er]
    rw [e0] at HG
    clear er e0
    go_enter Try.func11, Try.ntmps11
    go_wp2_with fail
    refine (unhide HG _).mono ?_
    rintro e w1 ⟨rfl, b1⟩
    have X1 := (unhide HX).below b1
    have x1 := X1.cv
    have x1f := X1.fz
    have x1l := X1.lt
    have Y1 := (unhide HY).below b1
    have y1 := Y1.cv
    have y1f := Y1.fz
    have y1l := Y1.lt
    clear HY
    have B1 := hide ((unhide B0).trans (b1.mono (unhide B0).size))
    clear b1 HX B0
    go_wp2_with (first | (go_at_call 24; with_reducible refine (unhide HS _).mono ?_; rintro e w9 ⟨rfl, h9⟩; rw [h9]; clear h9 w9))
    refine bodyPost_ret (v := .tuple #[windowZ, .bool false]) (by simp [results, Try.results11, go_sem, y1]) rfl ⟨rfl, ?_⟩
    iterate 4 refine Below.setCell ?_ (by simp) _
    exact unhide B1
  | true =>
  rw [e0] at HG
  have hgw := hide e0
  cases e1 : wsB n with
  | false =>
    have er : sbB D n = false := by unfold sbB; rw [e0, e1]; rfl
    rw [er]
    rw [e1] at HS
    clear er e0 e1
    go_enter Try.func11, Try.ntmps11
    go_wp2_with fail
    refine (unhide HG _).mono ?_
    rintro e w1 ⟨rfl, b1⟩
    have X1 := (unhide HX).below b1
    have x1 := X1.cv
    have x1f := X1.fz
    have x1l := X1.lt
    have Y1 := (unhide HY).below b1
    have y1 := Y1.cv
    have y1f := Y1.fz
    have y1l := Y1.lt
    clear HY
    have B1 := hide ((unhide B0).trans (b1.mono (unhide B0).size))
    clear b1 HX B0
    go_wp2_with (first | (go_at_call 24; with_reducible refine (unhide HS _).mono ?_; rintro e w9 ⟨rfl, h9⟩; rw [h9]; clear h9 w9))
    refine bodyPost_ret (v := .tuple #[windowZ, .bool false]) (by simp [results, Try.results11, go_sem, y1]) rfl ⟨rfl, ?_⟩
    iterate 4 refine Below.setCell ?_ (by simp) _
    exact unhide B1
  | true =>
  rw [e1] at HS
  obtain ⟨⟨a0, a1⟩, ⟨b0, b1⟩, ⟨c0, c1⟩, ⟨d0, d1⟩⟩ := wg_in e0
  obtain ⟨n00, n01⟩ := wiB_yes e1
  by_cases hc : D.f3 + n ≤ D.f0
  · have er : sbB D n = true := by unfold sbB; rw [e0, e1, decide_eq_true hc]; rfl
    rw [er]
    clear er
    clear hgw e0 e1
    obtain ⟨f0, f1, f2, f3⟩ := D
    dsimp only at *
    go_enter Try.func11, Try.ntmps11
    go_wp2_with fail
    refine (unhide HG _).mono ?_
    rintro e w1 ⟨rfl, b1⟩
    have X1 := (unhide HX).below b1
    have x1 := X1.cv
    have x1f := X1.fz
    have x1l := X1.lt
    have Y1 := (unhide HY).below b1
    have y1 := Y1.cv
    have y1f := Y1.fz
    have y1l := Y1.lt
    clear HY
    have B1 := hide ((unhide B0).trans (b1.mono (unhide B0).size))
    clear b1 HX B0
    go_wp2_with (first | (go_at_call 24; with_reducible refine (unhide HS _).mono ?_; rintro e w9 ⟨rfl, h9⟩; rw [h9]; clear h9 w9))
    refine bodyPost_ret (v := .tuple #[.agg #[.int .i64 f0, .int .i64 f1, .int .i64 f2, .int .i64 (f3 + n)], .bool true]) (by simp [results, Try.results11, go_sem, y1]) rfl ⟨rfl, ?_⟩
    repeat (refine Below.setCell ?_ (by simp) _)
    exact unhide B1
  · have er : sbB D n = false := by unfold sbB; rw [e0, e1, decide_eq_false hc]; rfl
    rw [er]
    clear er e0 e1
    clear hgw
    obtain ⟨f0, f1, f2, f3⟩ := D
    dsimp only at *
    go_enter Try.func11, Try.ntmps11
    go_wp2_with fail
    refine (unhide HG _).mono ?_
    rintro e w1 ⟨rfl, b1⟩
    have X1 := (unhide HX).below b1
    have x1 := X1.cv
    have x1f := X1.fz
    have x1l := X1.lt
    have Y1 := (unhide HY).below b1
    have y1 := Y1.cv
    have y1f := Y1.fz
    have y1l := Y1.lt
    clear HY
    have B1 := hide ((unhide B0).trans (b1.mono (unhide B0).size))
    clear b1 HX B0
    go_wp2_with (first | (go_at_call 24; with_reducible refine (unhide HS _).mono ?_; rintro e w9 ⟨rfl, h9⟩; rw [h9]; clear h9 w9))
    refine bodyPost_ret (v := .tuple #[windowZ, .bool false]) (by simp [results, Try.results11, go_sem, y1]) rfl ⟨rfl, ?_⟩
    iterate 4 refine Below.setCell ?_ (by simp) _
    exact unhide B1
set_option maxHeartbeats 8000000 in
theorem specSW (D : WindowD) (w : World) : Calls Try.prog 38 #[windowV D] w fun e w' => e = .returned (.tuple #[windowV (swD D (wgB D)), .bool (wgB D)]) ∧ Below w.heap.size w w' := by
  have HG := hide (specWg D)
  have HX := hide ((Bx.new w (windowC D) 24).alloc (.cells #[.int .i64 0, .int .i64 0, .int .i64 0, .int .i64 0] 24))
  have HY := hide (Bx.newAt (w.alloc (.cells (windowC D).toArray 24)) (w.heap.size + 1) [.int .i64 0, .int .i64 0, .int .i64 0, .int .i64 0] 24 (by simp))
  have B0 := hide (((Below.refl w.heap.size w).alloc (Nat.le_refl _) (.cells (windowC D).toArray 24)).alloc (by simp) (.cells #[.int .i64 0, .int .i64 0, .int .i64 0, .int .i64 0] 24))
  cases e0 : wgB D with
  | false =>
    rw [e0] at HG
    clear e0
    go_enter Try.func38, Try.ntmps38
    go_wp2_with fail
    refine (unhide HG _).mono ?_
    rintro e w1 ⟨rfl, b1⟩
    have X1 := (unhide HX).below b1
    have x1 := X1.cv
    have x1f := X1.fz
    have x1l := X1.lt
    have Y1 := (unhide HY).below b1
    have y1 := Y1.cv
    have y1f := Y1.fz
    have y1l := Y1.lt
    clear HY
    have B1 := hide ((unhide B0).trans (b1.mono (unhide B0).size))
    clear b1 HX B0
    go_wp2_with (fail)
    refine bodyPost_ret (v := .tuple #[windowZ, .bool false]) (by simp [results, Try.results38, go_sem, y1]) rfl ⟨rfl, ?_⟩
    iterate 4 refine Below.setCell ?_ (by simp) _
    exact unhide B1
  | true =>
  rw [e0] at HG
  have hgw := hide e0
  obtain ⟨⟨a0, a1⟩, ⟨b0, b1⟩, ⟨c0, c1⟩, ⟨d0, d1⟩⟩ := wg_in e0
  clear hgw e0
  obtain ⟨f0, f1, f2, f3⟩ := D
  dsimp only at *
  go_enter Try.func38, Try.ntmps38
  go_wp2_with fail
  refine (unhide HG _).mono ?_
  rintro e w1 ⟨rfl, b1⟩
  have X1 := (unhide HX).below b1
  have x1 := X1.cv
  have x1f := X1.fz
  have x1l := X1.lt
  have Y1 := (unhide HY).below b1
  have y1 := Y1.cv
  have y1f := Y1.fz
  have y1l := Y1.lt
  clear HY
  have B1 := hide ((unhide B0).trans (b1.mono (unhide B0).size))
  clear b1 HX B0
  go_wp2
  refine bodyPost_ret (v := .tuple #[.agg #[.int .i64 2400, .int .i64 f1, .int .i64 (-1), .int .i64 f3], .bool true]) (by simp [results, Try.results38, go_sem, y1]) rfl ⟨rfl, ?_⟩
  repeat (refine Below.setCell ?_ (by simp) _)
  exact unhide B1
set_option maxHeartbeats 8000000 in
theorem specLB (D : WindowD) (n t now : Int) (w : World) : Calls Try.prog 7 #[windowV D, .int .i64 n, .int .i64 t, .int .i64 now] w fun e w' => e = .returned (.tuple #[windowV (lbD D n t now (lbB D n t now)), .bool (lbB D n t now)]) ∧ Below w.heap.size w w' := by
  have HG := hide (specWg D)
  have HS := hide (specWz n)
  have HT := hide (specTk t)
  have HN := hide (specTk now)
  have HX := hide ((Bx.new w (windowC D) 24).alloc (.cells #[.int .i64 0, .int .i64 0, .int .i64 0, .int .i64 0] 24))
  have HY := hide (Bx.newAt (w.alloc (.cells (windowC D).toArray 24)) (w.heap.size + 1) [.int .i64 0, .int .i64 0, .int .i64 0, .int .i64 0] 24 (by simp))
  have B0 := hide (((Below.refl w.heap.size w).alloc (Nat.le_refl _) (.cells (windowC D).toArray 24)).alloc (by simp) (.cells #[.int .i64 0, .int .i64 0, .int .i64 0, .int .i64 0] 24))
  cases e0 : wgB D with
  | false =>
    have er : lbB D n t now = false := by unfold lbB; rw [e0]; rfl
    rw [er]
    rw [e0] at HG
    clear er e0
    go_enter Try.func7, Try.ntmps7
    go_wp2_with fail
    refine (unhide HG _).mono ?_
    rintro e w1 ⟨rfl, b1⟩
    have X1 := (unhide HX).below b1
    have x1 := X1.cv
    have x1f := X1.fz
    have x1l := X1.lt
    have Y1 := (unhide HY).below b1
    have y1 := Y1.cv
    have y1f := Y1.fz
    have y1l := Y1.lt
    clear HY
    have B1 := hide ((unhide B0).trans (b1.mono (unhide B0).size))
    clear b1 HX B0
    go_wp2_with (first | (go_at_call 24; with_reducible refine (unhide HS _).mono ?_; rintro e w9 ⟨rfl, h9⟩; rw [h9]; clear h9 w9) | (go_at_call 25; with_reducible refine (unhide HT _).mono ?_; rintro e w9 ⟨rfl, h9⟩; rw [h9]; clear h9 w9) | (go_at_call 25; with_reducible refine (unhide HN _).mono ?_; rintro e w9 ⟨rfl, h9⟩; rw [h9]; clear h9 w9))
    refine bodyPost_ret (v := .tuple #[windowZ, .bool false]) (by simp [results, Try.results7, go_sem, y1]) rfl ⟨rfl, ?_⟩
    iterate 4 refine Below.setCell ?_ (by simp) _
    exact unhide B1
  | true =>
  rw [e0] at HG
  have hgw := hide e0
  cases e1 : wsB n with
  | false =>
    have er : lbB D n t now = false := by unfold lbB; rw [e0, e1]; rfl
    rw [er]
    rw [e1] at HS
    clear er e0 e1
    go_enter Try.func7, Try.ntmps7
    go_wp2_with fail
    refine (unhide HG _).mono ?_
    rintro e w1 ⟨rfl, b1⟩
    have X1 := (unhide HX).below b1
    have x1 := X1.cv
    have x1f := X1.fz
    have x1l := X1.lt
    have Y1 := (unhide HY).below b1
    have y1 := Y1.cv
    have y1f := Y1.fz
    have y1l := Y1.lt
    clear HY
    have B1 := hide ((unhide B0).trans (b1.mono (unhide B0).size))
    clear b1 HX B0
    go_wp2_with (first | (go_at_call 24; with_reducible refine (unhide HS _).mono ?_; rintro e w9 ⟨rfl, h9⟩; rw [h9]; clear h9 w9) | (go_at_call 25; with_reducible refine (unhide HT _).mono ?_; rintro e w9 ⟨rfl, h9⟩; rw [h9]; clear h9 w9) | (go_at_call 25; with_reducible refine (unhide HN _).mono ?_; rintro e w9 ⟨rfl, h9⟩; rw [h9]; clear h9 w9))
    refine bodyPost_ret (v := .tuple #[windowZ, .bool false]) (by simp [results, Try.results7, go_sem, y1]) rfl ⟨rfl, ?_⟩
    iterate 4 refine Below.setCell ?_ (by simp) _
    exact unhide B1
  | true =>
  rw [e1] at HS
  cases e2 : tkB t with
  | false =>
    have er : lbB D n t now = false := by unfold lbB; rw [e0, e1, e2]; rfl
    rw [er]
    rw [e2] at HT
    clear er e0 e1 e2
    go_enter Try.func7, Try.ntmps7
    go_wp2_with fail
    refine (unhide HG _).mono ?_
    rintro e w1 ⟨rfl, b1⟩
    have X1 := (unhide HX).below b1
    have x1 := X1.cv
    have x1f := X1.fz
    have x1l := X1.lt
    have Y1 := (unhide HY).below b1
    have y1 := Y1.cv
    have y1f := Y1.fz
    have y1l := Y1.lt
    clear HY
    have B1 := hide ((unhide B0).trans (b1.mono (unhide B0).size))
    clear b1 HX B0
    go_wp2_with (first | (go_at_call 24; with_reducible refine (unhide HS _).mono ?_; rintro e w9 ⟨rfl, h9⟩; rw [h9]; clear h9 w9) | (go_at_call 25; with_reducible refine (unhide HT _).mono ?_; rintro e w9 ⟨rfl, h9⟩; rw [h9]; clear h9 w9) | (go_at_call 25; with_reducible refine (unhide HN _).mono ?_; rintro e w9 ⟨rfl, h9⟩; rw [h9]; clear h9 w9))
    refine bodyPost_ret (v := .tuple #[windowZ, .bool false]) (by simp [results, Try.results7, go_sem, y1]) rfl ⟨rfl, ?_⟩
    iterate 4 refine Below.setCell ?_ (by simp) _
    exact unhide B1
  | true =>
  rw [e2] at HT
  cases e3 : tkB now with
  | false =>
    have er : lbB D n t now = false := by unfold lbB; rw [e0, e1, e2, e3]; rfl
    rw [er]
    rw [e3] at HN
    clear er e0 e1 e2 e3
    go_enter Try.func7, Try.ntmps7
    go_wp2_with fail
    refine (unhide HG _).mono ?_
    rintro e w1 ⟨rfl, b1⟩
    have X1 := (unhide HX).below b1
    have x1 := X1.cv
    have x1f := X1.fz
    have x1l := X1.lt
    have Y1 := (unhide HY).below b1
    have y1 := Y1.cv
    have y1f := Y1.fz
    have y1l := Y1.lt
    clear HY
    have B1 := hide ((unhide B0).trans (b1.mono (unhide B0).size))
    clear b1 HX B0
    go_wp2_with (first | (go_at_call 24; with_reducible refine (unhide HS _).mono ?_; rintro e w9 ⟨rfl, h9⟩; rw [h9]; clear h9 w9) | (go_at_call 25; with_reducible refine (unhide HT _).mono ?_; rintro e w9 ⟨rfl, h9⟩; rw [h9]; clear h9 w9) | (go_at_call 25; with_reducible refine (unhide HN _).mono ?_; rintro e w9 ⟨rfl, h9⟩; rw [h9]; clear h9 w9))
    refine bodyPost_ret (v := .tuple #[windowZ, .bool false]) (by simp [results, Try.results7, go_sem, y1]) rfl ⟨rfl, ?_⟩
    iterate 4 refine Below.setCell ?_ (by simp) _
    exact unhide B1
  | true =>
  rw [e3] at HN
  obtain ⟨⟨a0, a1⟩, ⟨b0, b1⟩, ⟨c0, c1⟩, ⟨d0, d1⟩⟩ := wg_in e0
  obtain ⟨n00, n01⟩ := wiB_yes e1
  obtain ⟨n10, n11⟩ := tkB_yes e2
  obtain ⟨n20, n21⟩ := tkB_yes e3
  by_cases hc : n ≤ D.f3
  · have er : lbB D n t now = true := by unfold lbB; rw [e0, e1, e2, e3, decide_eq_true hc]; rfl
    rw [er]
    clear er
    obtain ⟨l0, l1⟩ := lbH_in e0
    by_cases ht : D.f2 < t
    · have e9 : lbD D n t now true = ⟨lbH D, lbH D, now, D.f3 - n⟩ := by show lbT D n t now = _; unfold lbT; rw [if_pos ht]
      rw [e9]
      have dv : Int.tdiv D.f0 2 = D.f0 / 2 := Int.tdiv_eq_ediv_of_nonneg (by omega)
      by_cases hh : D.f0 / 2 < 2400
      · have e8 : lbH D = 2400 := by unfold lbH; rw [if_pos hh]
        rw [e8]
        clear e8 e9 hgw l0 l1 e0 e1 e2 e3
        obtain ⟨f0, f1, f2, f3⟩ := D
        dsimp only at *
        go_enter Try.func7, Try.ntmps7
        go_wp2_with fail
        refine (unhide HG _).mono ?_
        rintro e w1 ⟨rfl, b1⟩
        have X1 := (unhide HX).below b1
        have x1 := X1.cv
        have x1f := X1.fz
        have x1l := X1.lt
        have Y1 := (unhide HY).below b1
        have y1 := Y1.cv
        have y1f := Y1.fz
        have y1l := Y1.lt
        clear HY
        have B1 := hide ((unhide B0).trans (b1.mono (unhide B0).size))
        clear b1 HX B0
        obtain ⟨V, hV⟩ : ∃ V, V = (((w1.setCell ⟨w.heap.size, 3, none⟩ (.int .i64 (f3 - n))).setCell ⟨w.heap.size, 2, none⟩ (.int .i64 now)).setCell ⟨w.heap.size, 1, none⟩ (.int .i64 (f0 / 2))).setCell ⟨w.heap.size, 1, none⟩ (.int .i64 2400) := ⟨_, rfl⟩
        have XV : Bx V w.heap.size [.int .i64 f0, .int .i64 2400, .int .i64 now, .int .i64 (f3 - n)] := by rw [hV]; exact (((X1.set (i := 3) (by simp)).set (i := 2) (by simp)).set (i := 1) (by simp)).set (i := 1) (by simp)
        have YV : Bx V (w.heap.size + 1) [.int .i64 0, .int .i64 0, .int .i64 0, .int .i64 0] := by rw [hV]; exact ((((Y1.other (by omega)).other (by omega)).other (by omega)).other (by omega))
        have BV := hide (show Below w.heap.size w V by rw [hV]; exact (((((unhide B1).setCell (p := ⟨w.heap.size, _, none⟩) (Nat.le_refl _) _).setCell (p := ⟨w.heap.size, _, none⟩) (Nat.le_refl _) _).setCell (p := ⟨w.heap.size, _, none⟩) (Nat.le_refl _) _).setCell (p := ⟨w.heap.size, _, none⟩) (Nat.le_refl _) _))
        have HV := hide hV
        clear hV
        go_upto_region 9 with (first | (go_at_call 24; with_reducible refine (unhide HS _).mono ?_; rintro e w9 ⟨rfl, h9⟩; rw [h9]; clear h9 w9) | (go_at_call 25; with_reducible refine (unhide HT _).mono ?_; rintro e w9 ⟨rfl, h9⟩; rw [h9]; clear h9 w9) | (go_at_call 25; with_reducible refine (unhide HN _).mono ?_; rintro e w9 ⟨rfl, h9⟩; rw [h9]; clear h9 w9))
        rw [← unhide HV]
        clear HV x1 x1f x1l y1 y1f y1l
        have x1 := XV.cv
        have x1f := XV.fz
        have x1l := XV.lt
        have y1 := YV.cv
        have y1f := YV.fz
        have y1l := YV.lt
        replace B1 := BV
        clear BV XV YV X1 Y1
        go_wp2
        refine bodyPost_ret (v := .tuple #[.agg #[.int .i64 2400, .int .i64 2400, .int .i64 now, .int .i64 (f3 - n)], .bool true]) (by simp [results, Try.results7, go_sem, y1]) rfl ⟨rfl, ?_⟩
        repeat (refine Below.setCell ?_ (by simp) _)
        exact unhide B1
      · have e8 : lbH D = D.f0 / 2 := by unfold lbH; rw [if_neg hh]
        rw [e8]
        clear e8 e9 hgw l0 l1 e0 e1 e2 e3
        obtain ⟨f0, f1, f2, f3⟩ := D
        dsimp only at *
        go_enter Try.func7, Try.ntmps7
        go_wp2_with fail
        refine (unhide HG _).mono ?_
        rintro e w1 ⟨rfl, b1⟩
        have X1 := (unhide HX).below b1
        have x1 := X1.cv
        have x1f := X1.fz
        have x1l := X1.lt
        have Y1 := (unhide HY).below b1
        have y1 := Y1.cv
        have y1f := Y1.fz
        have y1l := Y1.lt
        clear HY
        have B1 := hide ((unhide B0).trans (b1.mono (unhide B0).size))
        clear b1 HX B0
        go_wp2_with (first | (go_at_call 24; with_reducible refine (unhide HS _).mono ?_; rintro e w9 ⟨rfl, h9⟩; rw [h9]; clear h9 w9) | (go_at_call 25; with_reducible refine (unhide HT _).mono ?_; rintro e w9 ⟨rfl, h9⟩; rw [h9]; clear h9 w9) | (go_at_call 25; with_reducible refine (unhide HN _).mono ?_; rintro e w9 ⟨rfl, h9⟩; rw [h9]; clear h9 w9))
        refine bodyPost_ret (v := .tuple #[.agg #[.int .i64 (f0 / 2), .int .i64 (f0 / 2), .int .i64 now, .int .i64 (f3 - n)], .bool true]) (by simp [results, Try.results7, go_sem, y1]) rfl ⟨rfl, ?_⟩
        repeat (refine Below.setCell ?_ (by simp) _)
        exact unhide B1
    · have e9 : lbD D n t now true = ⟨D.f0, D.f1, D.f2, D.f3 - n⟩ := by show lbT D n t now = _; unfold lbT; rw [if_neg ht]
      rw [e9]
      clear e9 hgw l0 l1 e0 e1 e2 e3
      obtain ⟨f0, f1, f2, f3⟩ := D
      dsimp only at *
      go_enter Try.func7, Try.ntmps7
      go_wp2_with fail
      refine (unhide HG _).mono ?_
      rintro e w1 ⟨rfl, b1⟩
      have X1 := (unhide HX).below b1
      have x1 := X1.cv
      have x1f := X1.fz
      have x1l := X1.lt
      have Y1 := (unhide HY).below b1
      have y1 := Y1.cv
      have y1f := Y1.fz
      have y1l := Y1.lt
      clear HY
      have B1 := hide ((unhide B0).trans (b1.mono (unhide B0).size))
      clear b1 HX B0
      go_wp2_with (first | (go_at_call 24; with_reducible refine (unhide HS _).mono ?_; rintro e w9 ⟨rfl, h9⟩; rw [h9]; clear h9 w9) | (go_at_call 25; with_reducible refine (unhide HT _).mono ?_; rintro e w9 ⟨rfl, h9⟩; rw [h9]; clear h9 w9) | (go_at_call 25; with_reducible refine (unhide HN _).mono ?_; rintro e w9 ⟨rfl, h9⟩; rw [h9]; clear h9 w9))
      refine bodyPost_ret (v := .tuple #[.agg #[.int .i64 f0, .int .i64 f1, .int .i64 f2, .int .i64 (f3 - n)], .bool true]) (by simp [results, Try.results7, go_sem, y1]) rfl ⟨rfl, ?_⟩
      repeat (refine Below.setCell ?_ (by simp) _)
      exact unhide B1
  · have er : lbB D n t now = false := by unfold lbB; rw [e0, e1, e2, e3, decide_eq_false hc]; rfl
    rw [er]
    clear er e0 e1 e2 e3
    clear hgw
    obtain ⟨f0, f1, f2, f3⟩ := D
    dsimp only at *
    go_enter Try.func7, Try.ntmps7
    go_wp2_with fail
    refine (unhide HG _).mono ?_
    rintro e w1 ⟨rfl, b1⟩
    have X1 := (unhide HX).below b1
    have x1 := X1.cv
    have x1f := X1.fz
    have x1l := X1.lt
    have Y1 := (unhide HY).below b1
    have y1 := Y1.cv
    have y1f := Y1.fz
    have y1l := Y1.lt
    clear HY
    have B1 := hide ((unhide B0).trans (b1.mono (unhide B0).size))
    clear b1 HX B0
    go_wp2_with (first | (go_at_call 24; with_reducible refine (unhide HS _).mono ?_; rintro e w9 ⟨rfl, h9⟩; rw [h9]; clear h9 w9) | (go_at_call 25; with_reducible refine (unhide HT _).mono ?_; rintro e w9 ⟨rfl, h9⟩; rw [h9]; clear h9 w9) | (go_at_call 25; with_reducible refine (unhide HN _).mono ?_; rintro e w9 ⟨rfl, h9⟩; rw [h9]; clear h9 w9))
    refine bodyPost_ret (v := .tuple #[windowZ, .bool false]) (by simp [results, Try.results7, go_sem, y1]) rfl ⟨rfl, ?_⟩
    iterate 4 refine Below.setCell ?_ (by simp) _
    exact unhide B1
set_option maxHeartbeats 8000000 in
theorem specAB (D : WindowD) (n t : Int) (w : World) : Calls Try.prog 16 #[windowV D, .int .i64 n, .int .i64 t] w fun e w' => e = .returned (.tuple #[windowV (abD D n t (abB D n t)), .bool (abB D n t)]) ∧ Below w.heap.size w w' := by
  have HG := hide (specWg D)
  have HS := hide (specWz n)
  have HT := hide (specTk t)
  have HX := hide ((Bx.new w (windowC D) 24).alloc (.cells #[.int .i64 0, .int .i64 0, .int .i64 0, .int .i64 0] 24))
  have HY := hide (Bx.newAt (w.alloc (.cells (windowC D).toArray 24)) (w.heap.size + 1) [.int .i64 0, .int .i64 0, .int .i64 0, .int .i64 0] 24 (by simp))
  have B0 := hide (((Below.refl w.heap.size w).alloc (Nat.le_refl _) (.cells (windowC D).toArray 24)).alloc (by simp) (.cells #[.int .i64 0, .int .i64 0, .int .i64 0, .int .i64 0] 24))
  cases e0 : wgB D with
  | false =>
    have er : abB D n t = false := by unfold abB; rw [e0]; rfl
    rw [er]
    rw [e0] at HG
    clear er e0
    go_enter Try.func16, Try.ntmps16
    go_wp2_with fail
    refine (unhide HG _).mono ?_
    rintro e w1 ⟨rfl, b1⟩
    have X1 := (unhide HX).below b1
    have x1 := X1.cv
    have x1f := X1.fz
    have x1l := X1.lt
    have Y1 := (unhide HY).below b1
    have y1 := Y1.cv
    have y1f := Y1.fz
    have y1l := Y1.lt
    clear HY
    have B1 := hide ((unhide B0).trans (b1.mono (unhide B0).size))
    clear b1 HX B0
    go_wp2_with (first | (go_at_call 24; with_reducible refine (unhide HS _).mono ?_; rintro e w9 ⟨rfl, h9⟩; rw [h9]; clear h9 w9) | (go_at_call 25; with_reducible refine (unhide HT _).mono ?_; rintro e w9 ⟨rfl, h9⟩; rw [h9]; clear h9 w9))
    refine bodyPost_ret (v := .tuple #[windowZ, .bool false]) (by simp [results, Try.results16, go_sem, y1]) rfl ⟨rfl, ?_⟩
    iterate 4 refine Below.setCell ?_ (by simp) _
    exact unhide B1
  | true =>
  rw [e0] at HG
  have hgw := hide e0
  cases e1 : wsB n with
  | false =>
    have er : abB D n t = false := by unfold abB; rw [e0, e1]; rfl
    rw [er]
    rw [e1] at HS
    clear er e0 e1
    go_enter Try.func16, Try.ntmps16
    go_wp2_with fail
    refine (unhide HG _).mono ?_
    rintro e w1 ⟨rfl, b1⟩
    have X1 := (unhide HX).below b1
    have x1 := X1.cv
    have x1f := X1.fz
    have x1l := X1.lt
    have Y1 := (unhide HY).below b1
    have y1 := Y1.cv
    have y1f := Y1.fz
    have y1l := Y1.lt
    clear HY
    have B1 := hide ((unhide B0).trans (b1.mono (unhide B0).size))
    clear b1 HX B0
    go_wp2_with (first | (go_at_call 24; with_reducible refine (unhide HS _).mono ?_; rintro e w9 ⟨rfl, h9⟩; rw [h9]; clear h9 w9) | (go_at_call 25; with_reducible refine (unhide HT _).mono ?_; rintro e w9 ⟨rfl, h9⟩; rw [h9]; clear h9 w9))
    refine bodyPost_ret (v := .tuple #[windowZ, .bool false]) (by simp [results, Try.results16, go_sem, y1]) rfl ⟨rfl, ?_⟩
    iterate 4 refine Below.setCell ?_ (by simp) _
    exact unhide B1
  | true =>
  rw [e1] at HS
  cases e2 : tkB t with
  | false =>
    have er : abB D n t = false := by unfold abB; rw [e0, e1, e2]; rfl
    rw [er]
    rw [e2] at HT
    clear er e0 e1 e2
    go_enter Try.func16, Try.ntmps16
    go_wp2_with fail
    refine (unhide HG _).mono ?_
    rintro e w1 ⟨rfl, b1⟩
    have X1 := (unhide HX).below b1
    have x1 := X1.cv
    have x1f := X1.fz
    have x1l := X1.lt
    have Y1 := (unhide HY).below b1
    have y1 := Y1.cv
    have y1f := Y1.fz
    have y1l := Y1.lt
    clear HY
    have B1 := hide ((unhide B0).trans (b1.mono (unhide B0).size))
    clear b1 HX B0
    go_wp2_with (first | (go_at_call 24; with_reducible refine (unhide HS _).mono ?_; rintro e w9 ⟨rfl, h9⟩; rw [h9]; clear h9 w9) | (go_at_call 25; with_reducible refine (unhide HT _).mono ?_; rintro e w9 ⟨rfl, h9⟩; rw [h9]; clear h9 w9))
    refine bodyPost_ret (v := .tuple #[windowZ, .bool false]) (by simp [results, Try.results16, go_sem, y1]) rfl ⟨rfl, ?_⟩
    iterate 4 refine Below.setCell ?_ (by simp) _
    exact unhide B1
  | true =>
  rw [e2] at HT
  obtain ⟨⟨a0, a1⟩, ⟨b0, b1⟩, ⟨c0, c1⟩, ⟨d0, d1⟩⟩ := wg_in e0
  obtain ⟨n00, n01⟩ := wiB_yes e1
  obtain ⟨n10, n11⟩ := tkB_yes e2
  by_cases hc : n ≤ D.f3
  · have er : abB D n t = true := by unfold abB; rw [e0, e1, e2, decide_eq_true hc]; rfl
    rw [er]
    clear er
    obtain ⟨q0, q1⟩ := gq_in e0 e1
    by_cases ht : D.f2 < t
    · by_cases hs : D.f0 < D.f1
      · have eG : abG D n = D.f0 + n := by unfold abG; rw [if_pos hs]
        by_cases hm : 100000000 < D.f0 + n
        · have e9 : abD D n t true = ⟨100000000, D.f1, D.f2, D.f3 - n⟩ := by show WindowD.mk _ _ _ _ = _; unfold abS; rw [if_pos ht, eG, if_pos hm]
          rw [e9]
          clear e9 eG hgw e0 e1 e2
          obtain ⟨f0, f1, f2, f3⟩ := D
          dsimp only at *
          go_enter Try.func16, Try.ntmps16
          go_wp2_with fail
          refine (unhide HG _).mono ?_
          rintro e w1 ⟨rfl, b1⟩
          have X1 := (unhide HX).below b1
          have x1 := X1.cv
          have x1f := X1.fz
          have x1l := X1.lt
          have Y1 := (unhide HY).below b1
          have y1 := Y1.cv
          have y1f := Y1.fz
          have y1l := Y1.lt
          clear HY
          have B1 := hide ((unhide B0).trans (b1.mono (unhide B0).size))
          clear b1 HX B0
          obtain ⟨V, hV⟩ : ∃ V, V = ((w1.setCell ⟨w.heap.size, 3, none⟩ (.int .i64 (f3 - n))).setCell ⟨w.heap.size, 0, none⟩ (.int .i64 (f0 + n))).setCell ⟨w.heap.size, 0, none⟩ (.int .i64 100000000) := ⟨_, rfl⟩
          have XV : Bx V w.heap.size [.int .i64 100000000, .int .i64 f1, .int .i64 f2, .int .i64 (f3 - n)] := by rw [hV]; exact ((X1.set (i := 3) (by simp)).set (i := 0) (by simp)).set (i := 0) (by simp)
          have YV : Bx V (w.heap.size + 1) [.int .i64 0, .int .i64 0, .int .i64 0, .int .i64 0] := by rw [hV]; exact (((Y1.other (by omega)).other (by omega)).other (by omega))
          have BV := hide (show Below w.heap.size w V by rw [hV]; exact ((((unhide B1).setCell (p := ⟨w.heap.size, _, none⟩) (Nat.le_refl _) _).setCell (p := ⟨w.heap.size, _, none⟩) (Nat.le_refl _) _).setCell (p := ⟨w.heap.size, _, none⟩) (Nat.le_refl _) _))
          have HV := hide hV
          clear hV
          go_upto_region 10 with (first | (go_at_call 24; with_reducible refine (unhide HS _).mono ?_; rintro e w9 ⟨rfl, h9⟩; rw [h9]; clear h9 w9) | (go_at_call 25; with_reducible refine (unhide HT _).mono ?_; rintro e w9 ⟨rfl, h9⟩; rw [h9]; clear h9 w9))
          rw [← unhide HV]
          clear HV x1 x1f x1l y1 y1f y1l
          have x1 := XV.cv
          have x1f := XV.fz
          have x1l := XV.lt
          have y1 := YV.cv
          have y1f := YV.fz
          have y1l := YV.lt
          replace B1 := BV
          clear BV XV YV X1 Y1
          go_wp2
          refine bodyPost_ret (v := .tuple #[.agg #[.int .i64 100000000, .int .i64 f1, .int .i64 f2, .int .i64 (f3 - n)], .bool true]) (by simp [results, Try.results16, go_sem, y1]) rfl ⟨rfl, ?_⟩
          repeat (refine Below.setCell ?_ (by simp) _)
          exact unhide B1
        · have e9 : abD D n t true = ⟨D.f0 + n, D.f1, D.f2, D.f3 - n⟩ := by show WindowD.mk _ _ _ _ = _; unfold abS; rw [if_pos ht, eG, if_neg hm]
          rw [e9]
          clear e9 eG hgw e0 e1 e2
          obtain ⟨f0, f1, f2, f3⟩ := D
          dsimp only at *
          go_enter Try.func16, Try.ntmps16
          go_wp2_with fail
          refine (unhide HG _).mono ?_
          rintro e w1 ⟨rfl, b1⟩
          have X1 := (unhide HX).below b1
          have x1 := X1.cv
          have x1f := X1.fz
          have x1l := X1.lt
          have Y1 := (unhide HY).below b1
          have y1 := Y1.cv
          have y1f := Y1.fz
          have y1l := Y1.lt
          clear HY
          have B1 := hide ((unhide B0).trans (b1.mono (unhide B0).size))
          clear b1 HX B0
          go_wp2_with (first | (go_at_call 24; with_reducible refine (unhide HS _).mono ?_; rintro e w9 ⟨rfl, h9⟩; rw [h9]; clear h9 w9) | (go_at_call 25; with_reducible refine (unhide HT _).mono ?_; rintro e w9 ⟨rfl, h9⟩; rw [h9]; clear h9 w9))
          refine bodyPost_ret (v := .tuple #[.agg #[.int .i64 (f0 + n), .int .i64 f1, .int .i64 f2, .int .i64 (f3 - n)], .bool true]) (by simp [results, Try.results16, go_sem, y1]) rfl ⟨rfl, ?_⟩
          repeat (refine Below.setCell ?_ (by simp) _)
          exact unhide B1
      · have eG : abG D n = D.f0 + 1200 * n / D.f0 := by unfold abG; rw [if_neg hs]
        have dv : Int.tdiv (1200 * n) D.f0 = 1200 * n / D.f0 := Int.tdiv_eq_ediv_of_nonneg (by omega)
        generalize 1200 * n / D.f0 = q at *
        have hz : ¬ D.f0 = 0 := by omega
        have hw1 : IntKind.i64.wrap (1200 * n) = 1200 * n := by rw [IntKind.wrap_i64]; omega
        have hw2 : IntKind.i64.wrap q = q := by rw [IntKind.wrap_i64]; omega
        have hw3 : IntKind.i64.wrap (D.f0 + q) = D.f0 + q := by rw [IntKind.wrap_i64]; omega
        by_cases hm : 100000000 < D.f0 + q
        · have e9 : abD D n t true = ⟨100000000, D.f1, D.f2, D.f3 - n⟩ := by show WindowD.mk _ _ _ _ = _; unfold abS; rw [if_pos ht, eG, if_pos hm]
          rw [e9]
          clear e9 eG hgw e0 e1 e2
          obtain ⟨f0, f1, f2, f3⟩ := D
          dsimp only at *
          go_enter Try.func16, Try.ntmps16
          go_wp2_with fail
          refine (unhide HG _).mono ?_
          rintro e w1 ⟨rfl, b1⟩
          have X1 := (unhide HX).below b1
          have x1 := X1.cv
          have x1f := X1.fz
          have x1l := X1.lt
          have Y1 := (unhide HY).below b1
          have y1 := Y1.cv
          have y1f := Y1.fz
          have y1l := Y1.lt
          clear HY
          have B1 := hide ((unhide B0).trans (b1.mono (unhide B0).size))
          clear b1 HX B0
          go_upto_region 7 with (first | (go_at_call 24; with_reducible refine (unhide HS _).mono ?_; rintro e w9 ⟨rfl, h9⟩; rw [h9]; clear h9 w9) | (go_at_call 25; with_reducible refine (unhide HT _).mono ?_; rintro e w9 ⟨rfl, h9⟩; rw [h9]; clear h9 w9))
          go_region_law (fail)
          all_goals
            obtain ⟨V, hV⟩ : ∃ V, V = ((w1.setCell ⟨w.heap.size, 3, none⟩ (.int .i64 (f3 - n))).setCell ⟨w.heap.size, 0, none⟩ (.int .i64 (f0 + q))).drew := ⟨_, rfl⟩
            have XV : Bx V w.heap.size [.int .i64 (f0 + q), .int .i64 f1, .int .i64 f2, .int .i64 (f3 - n)] := by rw [hV]; exact ((X1.set (i := 3) (by simp)).set (i := 0) (by simp)).drew
            have YV : Bx V (w.heap.size + 1) [.int .i64 0, .int .i64 0, .int .i64 0, .int .i64 0] := by rw [hV]; exact ((Y1.other (by omega)).other (by omega)).drew
            have BV := hide (show Below w.heap.size w V by rw [hV]; exact (((unhide B1).setCell (p := ⟨w.heap.size, _, none⟩) (Nat.le_refl _) _).setCell (p := ⟨w.heap.size, _, none⟩) (Nat.le_refl _) _).drew)
            rw [← hV]
            clear hV x1 x1f x1l y1 y1f y1l
            have x1 := XV.cv
            have x1f := XV.fz
            have x1l := XV.lt
            have y1 := YV.cv
            have y1f := YV.fz
            have y1l := YV.lt
            replace B1 := BV
            clear BV XV YV X1 Y1
            go_wp2
            refine bodyPost_ret (v := .tuple #[.agg #[.int .i64 100000000, .int .i64 f1, .int .i64 f2, .int .i64 (f3 - n)], .bool true]) (by simp [results, Try.results16, go_sem, y1]) rfl ⟨rfl, ?_⟩
            repeat (refine Below.setCell ?_ (by simp) _)
            exact unhide B1
        · have e9 : abD D n t true = ⟨D.f0 + q, D.f1, D.f2, D.f3 - n⟩ := by show WindowD.mk _ _ _ _ = _; unfold abS; rw [if_pos ht, eG, if_neg hm]
          rw [e9]
          clear e9 eG hgw e0 e1 e2
          obtain ⟨f0, f1, f2, f3⟩ := D
          dsimp only at *
          go_enter Try.func16, Try.ntmps16
          go_wp2_with fail
          refine (unhide HG _).mono ?_
          rintro e w1 ⟨rfl, b1⟩
          have X1 := (unhide HX).below b1
          have x1 := X1.cv
          have x1f := X1.fz
          have x1l := X1.lt
          have Y1 := (unhide HY).below b1
          have y1 := Y1.cv
          have y1f := Y1.fz
          have y1l := Y1.lt
          clear HY
          have B1 := hide ((unhide B0).trans (b1.mono (unhide B0).size))
          clear b1 HX B0
          go_upto_region 7 with (first | (go_at_call 24; with_reducible refine (unhide HS _).mono ?_; rintro e w9 ⟨rfl, h9⟩; rw [h9]; clear h9 w9) | (go_at_call 25; with_reducible refine (unhide HT _).mono ?_; rintro e w9 ⟨rfl, h9⟩; rw [h9]; clear h9 w9))
          go_region_law (fail)
          all_goals
            obtain ⟨V, hV⟩ : ∃ V, V = ((w1.setCell ⟨w.heap.size, 3, none⟩ (.int .i64 (f3 - n))).setCell ⟨w.heap.size, 0, none⟩ (.int .i64 (f0 + q))).drew := ⟨_, rfl⟩
            have XV : Bx V w.heap.size [.int .i64 (f0 + q), .int .i64 f1, .int .i64 f2, .int .i64 (f3 - n)] := by rw [hV]; exact ((X1.set (i := 3) (by simp)).set (i := 0) (by simp)).drew
            have YV : Bx V (w.heap.size + 1) [.int .i64 0, .int .i64 0, .int .i64 0, .int .i64 0] := by rw [hV]; exact ((Y1.other (by omega)).other (by omega)).drew
            have BV := hide (show Below w.heap.size w V by rw [hV]; exact (((unhide B1).setCell (p := ⟨w.heap.size, _, none⟩) (Nat.le_refl _) _).setCell (p := ⟨w.heap.size, _, none⟩) (Nat.le_refl _) _).drew)
            rw [← hV]
            clear hV x1 x1f x1l y1 y1f y1l
            have x1 := XV.cv
            have x1f := XV.fz
            have x1l := XV.lt
            have y1 := YV.cv
            have y1f := YV.fz
            have y1l := YV.lt
            replace B1 := BV
            clear BV XV YV X1 Y1
            go_wp2
            refine bodyPost_ret (v := .tuple #[.agg #[.int .i64 (f0 + q), .int .i64 f1, .int .i64 f2, .int .i64 (f3 - n)], .bool true]) (by simp [results, Try.results16, go_sem, y1]) rfl ⟨rfl, ?_⟩
            repeat (refine Below.setCell ?_ (by simp) _)
            exact unhide B1
    · have e9 : abD D n t true = ⟨D.f0, D.f1, D.f2, D.f3 - n⟩ := by show WindowD.mk _ _ _ _ = _; unfold abS; rw [if_neg ht]
      rw [e9]
      clear e9 hgw q0 q1 e0 e1 e2
      obtain ⟨f0, f1, f2, f3⟩ := D
      dsimp only at *
      go_enter Try.func16, Try.ntmps16
      go_wp2_with fail
      refine (unhide HG _).mono ?_
      rintro e w1 ⟨rfl, b1⟩
      have X1 := (unhide HX).below b1
      have x1 := X1.cv
      have x1f := X1.fz
      have x1l := X1.lt
      have Y1 := (unhide HY).below b1
      have y1 := Y1.cv
      have y1f := Y1.fz
      have y1l := Y1.lt
      clear HY
      have B1 := hide ((unhide B0).trans (b1.mono (unhide B0).size))
      clear b1 HX B0
      go_wp2_with (first | (go_at_call 24; with_reducible refine (unhide HS _).mono ?_; rintro e w9 ⟨rfl, h9⟩; rw [h9]; clear h9 w9) | (go_at_call 25; with_reducible refine (unhide HT _).mono ?_; rintro e w9 ⟨rfl, h9⟩; rw [h9]; clear h9 w9))
      refine bodyPost_ret (v := .tuple #[.agg #[.int .i64 f0, .int .i64 f1, .int .i64 f2, .int .i64 (f3 - n)], .bool true]) (by simp [results, Try.results16, go_sem, y1]) rfl ⟨rfl, ?_⟩
      repeat (refine Below.setCell ?_ (by simp) _)
      exact unhide B1
  · have er : abB D n t = false := by unfold abB; rw [e0, e1, e2, decide_eq_false hc]; rfl
    rw [er]
    clear er e0 e1 e2
    clear hgw
    obtain ⟨f0, f1, f2, f3⟩ := D
    dsimp only at *
    go_enter Try.func16, Try.ntmps16
    go_wp2_with fail
    refine (unhide HG _).mono ?_
    rintro e w1 ⟨rfl, b1⟩
    have X1 := (unhide HX).below b1
    have x1 := X1.cv
    have x1f := X1.fz
    have x1l := X1.lt
    have Y1 := (unhide HY).below b1
    have y1 := Y1.cv
    have y1f := Y1.fz
    have y1l := Y1.lt
    clear HY
    have B1 := hide ((unhide B0).trans (b1.mono (unhide B0).size))
    clear b1 HX B0
    go_wp2_with (first | (go_at_call 24; with_reducible refine (unhide HS _).mono ?_; rintro e w9 ⟨rfl, h9⟩; rw [h9]; clear h9 w9) | (go_at_call 25; with_reducible refine (unhide HT _).mono ?_; rintro e w9 ⟨rfl, h9⟩; rw [h9]; clear h9 w9))
    refine bodyPost_ret (v := .tuple #[windowZ, .bool false]) (by simp [results, Try.results16, go_sem, y1]) rfl ⟨rfl, ?_⟩
    iterate 4 refine Below.setCell ?_ (by simp) _
    exact unhide B1
set_option maxHeartbeats 1000000 in
theorem specNW (w : World) : Calls Try.prog 32 #[] w fun e w' => e = .returned (windowV nwD) ∧ Below w.heap.size w w' := by
  have B0 := hide ((Below.refl w.heap.size w).alloc (Nat.le_refl _) (.cells #[.int .i64 0, .int .i64 0, .int .i64 0, .int .i64 0] 24))
  go_enter Try.func32, Try.ntmps32
  go_wp2
  refine bodyPost_ret (v := windowV nwD) (by simp [results, Try.results32, go_sem, nwD]) rfl ⟨rfl, ?_⟩
  exact (Below.refl w.heap.size w).alloc (Nat.le_refl _) _
end Go.Proofs.Ytpjpmlopmknllaa.Rc
