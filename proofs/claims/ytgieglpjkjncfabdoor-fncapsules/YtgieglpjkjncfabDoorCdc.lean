/-
  Contracts: whether what is carried is good, of both sides.
-/
import Derived.Test.YtgieglpjkjncfabDoorCdw
import Derived.Test.YtgieglpjkjncfabDoorCpg
namespace Go.Proofs.YtgieglpjkjncfabDoor.Rc
open Go.ChangeShapes Go.WideShapes Go.ChangeAt Go.RowKit Go.Deep
set_option linter.unusedVariables false
set_option maxRecDepth 100000

/-- a good stream, whether what is carried is good -/
def inS (n : Int) : Bool := decide (0 ≤ n) && decide (n ≤ 4611686018427387900)
def gdK (D : CarriedD) : Bool := (inS D.f0 && decide (Int.tmod D.f0 4 = 0)) && (k62 D.f1 && decide (D.f2.size ≤ 1200))
set_option maxHeartbeats 1000000 in
theorem implGS (n : Int) (w : World) : Calls Tryd.prog 51 #[.int .i64 n] w fun e w' => e = .returned (.bool (inS n && decide (Int.tmod n 4 = 0))) ∧ w' = w := by
  have HB : Hid (∀ W, Calls Tryd.prog 40 #[.int .i64 0, .int .i64 n, .int .i64 4611686018427387900] W fun e w' => e = .returned (.bool (inS n)) ∧ w' = W) := bw16 0 n 4611686018427387900
  have hw : inS n = true → IntKind.i64.wrap (Int.tmod n 4) = Int.tmod n 4 := fun h => by
    unfold inS at h
    simp only [Bool.and_eq_true, decide_eq_true_eq] at h
    rw [Int.tmod_eq_emod_of_nonneg h.1]
    exact wraps_i64 _ (by omega) (by omega)
  cases hn : inS n with
  | false =>
    rw [hn] at HB
    go_enter Tryd.func51, Tryd.ntmps51
    go_wp2_with fail
    refine (unhide HB _).mono ?_
    rintro e w1 ⟨rfl, rfl⟩
    go_wp2
    go_ret
    exact ⟨rfl, rfl⟩
  | true =>
    rw [hn] at HB
    have h1 := hw hn
    clear hw hn
    cases hm : decide (Int.tmod n 4 = 0) with
    | true =>
      go_enter Tryd.func51, Tryd.ntmps51
      go_wp2_with fail
      refine (unhide HB _).mono ?_
      rintro e w1 ⟨rfl, rfl⟩
      have h2 : (Int.tmod n 4 == 0) = true := beq_iff_eq.2 (of_decide_eq_true hm)
      go_wp2
      go_ret
      exact ⟨rfl, rfl⟩
    | false =>
      go_enter Tryd.func51, Tryd.ntmps51
      go_wp2_with fail
      refine (unhide HB _).mono ?_
      rintro e w1 ⟨rfl, rfl⟩
      have h2 : (Int.tmod n 4 == 0) = false := beq_eq_false_iff_ne.2 (of_decide_eq_false hm)
      go_wp2
      go_ret
      exact ⟨rfl, rfl⟩
set_option maxHeartbeats 4000000 in
theorem implGK (D : CarriedD) (hs : D.f2.size ≤ 1048576) (w : World) : Calls Tryd.prog 31 #[carriedV D] w fun e w' => e = .returned (.bool (gdK D)) ∧ Below w.heap.size w w' := by
  have B0 := hide ((Below.refl w.heap.size w).alloc (Nat.le_refl _) (.cells (carriedC D).toArray 38))
  have B1 := hide (((Below.refl w.heap.size w).alloc (Nat.le_refl _) (.cells (carriedC D).toArray 38)).alloc (by simp) (.cells #[.string D.f2] 9))
  unfold gdK
  obtain ⟨f0, f1, f2⟩ := D
  dsimp only at *
  have HS := hide (implGS f0)
  have HK : Hid (∀ W, Calls Tryd.prog 40 #[.int .i64 0, .int .i64 f1, .int .i64 4611686018427387903] W fun e w' => e = .returned (.bool (k62 f1)) ∧ w' = W) := bw16 0 f1 4611686018427387903
  have HW := hide (fun W g c => within_one f2 1200 (by omega) hs W g c)
  generalize (inS f0 && decide (Int.tmod f0 4 = 0)) = r0 at *
  generalize k62 f1 = r1 at *
  generalize decide (f2.size ≤ 1200) = r2 at *
  cases r0 with
  | false =>
    go_enter Tryd.func31, Tryd.ntmps31
    go_wp2_with (go_at_call 51; refine (unhide HS _).mono ?_; rintro e w9 ⟨rfl, h9⟩; rw [h9]; clear h9 w9)
    go_ret
    exact ⟨rfl, unhide B0⟩
  | true =>
    cases r1 with
    | false =>
      go_enter Tryd.func31, Tryd.ntmps31
      go_wp2_with (first | (go_at_call 51; refine (unhide HS _).mono ?_; rintro e w9 ⟨rfl, h9⟩; rw [h9]; clear h9 w9) | (go_at_call 40; (with_reducible refine (unhide HK _).mono ?_); rintro e w9 ⟨rfl, h9⟩; rw [h9]; clear h9 w9))
      go_ret
      exact ⟨rfl, unhide B0⟩
    | true =>
      go_enter Tryd.func31, Tryd.ntmps31
      go_wp2_with (first | (go_at_call 51; refine (unhide HS _).mono ?_; rintro e w9 ⟨rfl, h9⟩; rw [h9]; clear h9 w9) | (go_at_call 40; (with_reducible refine (unhide HK _).mono ?_); rintro e w9 ⟨rfl, h9⟩; rw [h9]; clear h9 w9) | (go_at_call 34; refine (unhide HW _ _ _ (by simp)).mono ?_; rintro e w9 ⟨rfl, h9⟩; rw [h9]; clear h9 w9))
      go_ret
      exact ⟨rfl, unhide B1⟩
set_option maxHeartbeats 4000000 in
theorem specGK (D : CarriedD) (hs : D.f2.size ≤ 1048576) (w : World) : Calls Tryd.prog 32 #[carriedV D] w fun e w' => e = .returned (.bool (gdK D)) ∧ Below w.heap.size w w' := by
  have B0 := hide ((Below.refl w.heap.size w).alloc (Nat.le_refl _) (.cells (carriedC D).toArray 38))
  unfold gdK
  obtain ⟨f0, f1, f2⟩ := D
  dsimp only at *
  have HS : Hid (∀ W, Calls Tryd.prog 52 #[.int .i64 f0, .int .i64 0, .int .i64 4611686018427387900] W fun e w' => e = .returned (.bool (inS f0)) ∧ w' = W) := in16 f0 0 4611686018427387900
  have HK := hide (kn16 f1)
  have hw : inS f0 = true → IntKind.i64.wrap (Int.tmod f0 4) = Int.tmod f0 4 := fun h => by
    unfold inS at h
    simp only [Bool.and_eq_true, decide_eq_true_eq] at h
    rw [Int.tmod_eq_emod_of_nonneg h.1]
    exact wraps_i64 _ (by omega) (by omega)
  have HE : Hid (decide (f2.size ≤ 1200) = decide ((f2.size : Int) ≤ 1200)) := decide_eq_decide.2 (by omega)
  rw [unhide HE]
  clear HE
  have wz : IntKind.i64.wrap (f2.size : Int) = (f2.size : Int) := by rw [IntKind.wrap_i64]; omega
  cases hn : inS f0 with
  | false =>
    rw [hn] at HS
    clear hw hn
    go_enter Tryd.func32, Tryd.ntmps32
    go_wp2_with (go_at_call 52; refine (unhide HS _).mono ?_; rintro e w9 ⟨rfl, h9⟩; rw [h9]; clear h9 w9)
    go_ret
    exact ⟨rfl, unhide B0⟩
  | true =>
    rw [hn] at HS
    have h1 := hw hn
    clear hw hn
    by_cases hm : Int.tmod f0 4 = 0
    · have hm2 : (Int.tmod f0 4 == 0) = true := beq_iff_eq.2 hm
      rw [decide_eq_true hm]
      clear hm
      cases hk : k62 f1 with
      | false =>
        rw [hk] at HK
        go_enter Tryd.func32, Tryd.ntmps32
        go_wp2_with (first | (go_at_call 52; refine (unhide HS _).mono ?_; rintro e w9 ⟨rfl, h9⟩; rw [h9]; clear h9 w9) | (go_at_call 42; refine (unhide HK _).mono ?_; rintro e w9 ⟨rfl, h9⟩; rw [h9]; clear h9 w9))
        go_ret
        exact ⟨rfl, unhide B0⟩
      | true =>
        rw [hk] at HK
        go_enter Tryd.func32, Tryd.ntmps32
        go_wp2_with (first | (go_at_call 52; refine (unhide HS _).mono ?_; rintro e w9 ⟨rfl, h9⟩; rw [h9]; clear h9 w9) | (go_at_call 42; refine (unhide HK _).mono ?_; rintro e w9 ⟨rfl, h9⟩; rw [h9]; clear h9 w9))
        go_ret
        exact ⟨rfl, unhide B0⟩
    · have hm2 : (Int.tmod f0 4 == 0) = false := beq_eq_false_iff_ne.2 hm
      rw [decide_eq_false hm]
      clear hm
      go_enter Tryd.func32, Tryd.ntmps32
      go_wp2_with (go_at_call 52; refine (unhide HS _).mono ?_; rintro e w9 ⟨rfl, h9⟩; rw [h9]; clear h9 w9)
      go_ret
      exact ⟨rfl, unhide B0⟩
end Go.Proofs.YtgieglpjkjncfabDoor.Rc
