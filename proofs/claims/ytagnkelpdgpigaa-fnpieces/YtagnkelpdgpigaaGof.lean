/-
  Contracts: whether what goes out is good, of both sides.
-/
import Derived.Test.YtagnkelpdgpigaaOfw
import Derived.Test.YtagnkelpdgpigaaSnf
import Derived.Test.YtagnkelpdgpigaaKn4
namespace Go.Proofs.Ytagnkelpdgpigaa.Rc
open Go.ChangeShapes Go.WideShapes Go.ChangeAt Go.RowKit Go.Deep
set_option linter.unusedVariables false
set_option maxRecDepth 100000

theorem win4 (t : ByteArray) (most : Nat) (hm : most ≤ 100000) (hl : t.size ≤ 1099511627776) (w : World) (g c : Nat) (hc : w.cell? ⟨g, 0, none⟩ = some (.string t)) :
    Calls Try.prog 21 #[.int .i64 most, .slice (some ⟨g, 0, none⟩) 1 c] w fun e w' => e = .returned (.bool (decide (t.size ≤ most))) ∧ w' = w := by
  by_cases h : t.size ≤ most
  · have h2 : ¬ ((most : Int) < (t.size : Int)) := by omega
    rw [decide_eq_true h]
    go_enter Try.func21, Try.ntmps21
    go_wp2
    refine wp_loop_rounds 2 ?_
    rw [rounds_succ]
    go_wp2
    rw [rounds_succ]
    go_wp2
    go_ret
    exact ⟨rfl, rfl⟩
  · have h2 : (most : Int) < (t.size : Int) := by omega
    rw [decide_eq_false h]
    go_enter Try.func21, Try.ntmps21
    go_wp2
    refine wp_loop_rounds 1 ?_
    rw [rounds_succ]
    go_wp2
    go_ret
    exact ⟨rfl, rfl⟩
def knI (n : Int) : Bool := decide (0 ≤ n) && decide (n ≤ 4611686018427387903)
/-- whether what goes out is good -/
def goB (D : OutflowD) : Bool := knI D.f0 && (decide (D.f2.size ≤ 4000) && ((decide (0 ≤ D.f1) && decide (D.f1 ≤ D.f2.size)) && decide (D.f1 ≤ D.f0)))
theorem goB_min (D : OutflowD) : goB D = (knI D.f0 && (decide (D.f2.size ≤ 4000) && (decide (0 ≤ D.f1) && decide (D.f1 ≤ (if (D.f2.size : Int) ≤ D.f0 then (D.f2.size : Int) else D.f0))))) := by
  unfold goB
  congr 1
  congr 1
  rw [Bool.eq_iff_iff]
  simp only [Bool.and_eq_true, decide_eq_true_eq]
  split <;> omega
set_option maxHeartbeats 4000000 in
theorem specGO (D : OutflowD) (hs : D.f2.size ≤ 1048576) (w : World) : Calls Try.prog 14 #[outflowV D] w fun e w' => e = .returned (.bool (goB D)) ∧ Below w.heap.size w w' := by
  have B0 := hide ((Below.refl w.heap.size w).alloc (Nat.le_refl _) (.cells (outflowC D).toArray 24))
  obtain ⟨f0, f1, f2, f3⟩ := D
  dsimp only at *
  have HK := hide (kn14 f0)
  have HI := hide (inB f1 0 f2.size)
  have HE : Hid (goB ⟨f0, f1, f2, f3⟩ = ((decide (0 ≤ f0) && decide (f0 ≤ 4611686018427387903)) && (decide (f2.size ≤ 4000) && ((decide (0 ≤ f1) && decide (f1 ≤ f2.size)) && decide (f1 ≤ f0))))) := rfl
  rw [unhide HE]
  clear HE
  have wz : IntKind.i64.wrap (f2.size : Int) = (f2.size : Int) := by rw [IntKind.wrap_i64]; omega
  generalize (decide (0 ≤ f0) && decide (f0 ≤ 4611686018427387903)) = r0 at *
  generalize (decide (0 ≤ f1) && decide (f1 ≤ (f2.size : Int))) = r1 at *
  cases r0 with
  | false =>
    go_enter Try.func14, Try.ntmps14
    go_wp2_with (go_at_call 26; (with_reducible refine (unhide HK _).mono ?_); rintro e w9 ⟨rfl, h9⟩; rw [h9]; clear h9 w9)
    go_ret
    exact ⟨rfl, unhide B0⟩
  | true =>
    by_cases h1 : f2.size ≤ 4000
    · have t1 : decide ((f2.size : Int) ≤ 4000) = true := decide_eq_true (by omega)
      rw [decide_eq_true h1]
      clear h1
      cases r1 with
      | false =>
        go_enter Try.func14, Try.ntmps14
        go_wp2_with (first | (go_at_call 26; (with_reducible refine (unhide HK _).mono ?_); rintro e w9 ⟨rfl, h9⟩; rw [h9]; clear h9 w9) | (go_at_call 15; (with_reducible refine (unhide HI _).mono ?_); rintro e w9 ⟨rfl, h9⟩; rw [h9]; clear h9 w9))
        go_ret
        exact ⟨rfl, unhide B0⟩
      | true =>
        go_enter Try.func14, Try.ntmps14
        go_wp2_with (first | (go_at_call 26; (with_reducible refine (unhide HK _).mono ?_); rintro e w9 ⟨rfl, h9⟩; rw [h9]; clear h9 w9) | (go_at_call 15; (with_reducible refine (unhide HI _).mono ?_); rintro e w9 ⟨rfl, h9⟩; rw [h9]; clear h9 w9))
        go_ret
        exact ⟨rfl, unhide B0⟩
    · have t1 : decide ((f2.size : Int) ≤ 4000) = false := decide_eq_false (by omega)
      rw [decide_eq_false h1]
      clear h1
      go_enter Try.func14, Try.ntmps14
      go_wp2_with (go_at_call 26; (with_reducible refine (unhide HK _).mono ?_); rintro e w9 ⟨rfl, h9⟩; rw [h9]; clear h9 w9)
      go_ret
      exact ⟨rfl, unhide B0⟩
set_option maxHeartbeats 4000000 in
theorem implGO (D : OutflowD) (hs : D.f2.size ≤ 1048576) (w : World) : Calls Try.prog 9 #[outflowV D] w fun e w' => e = .returned (.bool (goB D)) ∧ Below w.heap.size w w' := by
  have B0 := hide ((Below.refl w.heap.size w).alloc (Nat.le_refl _) (.cells (outflowC D).toArray 24))
  have B1 := hide (((Below.refl w.heap.size w).alloc (Nat.le_refl _) (.cells (outflowC D).toArray 24)).alloc (by simp) (.cells #[.string D.f2] 9))
  rw [goB_min]
  obtain ⟨f0, f1, f2, f3⟩ := D
  dsimp only at *
  unfold knI
  have HK := hide (bt4 0 f0 4611686018427387903)
  have HI := hide (bt4 0 f1 (if (f2.size : Int) ≤ f0 then (f2.size : Int) else f0))
  have HW := hide (fun W g c => win4 f2 4000 (by decide) (by omega) W g c)
  generalize (decide (0 ≤ f0) && decide (f0 ≤ 4611686018427387903)) = r0 at *
  generalize decide (f2.size ≤ 4000) = r2 at *
  generalize (decide (0 ≤ f1) && decide (f1 ≤ (if (f2.size : Int) ≤ f0 then (f2.size : Int) else f0))) = r1 at *
  cases r0 with
  | false =>
    go_enter Try.func9, Try.ntmps9
    go_wp2_with (go_at_call 12; (with_reducible refine (unhide HK _).mono ?_); rintro e w9 ⟨rfl, h9⟩; rw [h9]; clear h9 w9)
    go_ret
    exact ⟨rfl, unhide B0⟩
  | true =>
    cases r2 with
    | false =>
      go_enter Try.func9, Try.ntmps9
      go_wp2_with (first | (go_at_call 12; (with_reducible refine (unhide HK _).mono ?_); rintro e w9 ⟨rfl, h9⟩; rw [h9]; clear h9 w9) | (go_at_call 21; refine (unhide HW _ _ _ (by simp)).mono ?_; rintro e w9 ⟨rfl, h9⟩; rw [h9]; clear h9 w9))
      go_ret
      exact ⟨rfl, unhide B1⟩
    | true =>
      by_cases hm : (f2.size : Int) ≤ f0
      · rw [if_pos hm] at HI
        go_enter Try.func9, Try.ntmps9
        go_wp2_with (first | (go_at_call 12; (with_reducible refine (unhide HK _).mono ?_); rintro e w9 ⟨rfl, h9⟩; rw [h9]; clear h9 w9) | (go_at_call 21; refine (unhide HW _ _ _ (by simp)).mono ?_; rintro e w9 ⟨rfl, h9⟩; rw [h9]; clear h9 w9) | (go_at_call 12; (with_reducible refine (unhide HI _).mono ?_); rintro e w9 ⟨rfl, h9⟩; rw [h9]; clear h9 w9))
        go_ret
        exact ⟨rfl, unhide B1⟩
      · rw [if_neg hm] at HI
        have hm2 : f0 < (f2.size : Int) := by omega
        go_enter Try.func9, Try.ntmps9
        go_wp2_with (first | (go_at_call 12; (with_reducible refine (unhide HK _).mono ?_); rintro e w9 ⟨rfl, h9⟩; rw [h9]; clear h9 w9) | (go_at_call 21; refine (unhide HW _ _ _ (by simp)).mono ?_; rintro e w9 ⟨rfl, h9⟩; rw [h9]; clear h9 w9) | (go_at_call 12; (with_reducible refine (unhide HI _).mono ?_); rintro e w9 ⟨rfl, h9⟩; rw [h9]; clear h9 w9))
        go_ret
        exact ⟨rfl, unhide B1⟩
end Go.Proofs.Ytagnkelpdgpigaa.Rc
