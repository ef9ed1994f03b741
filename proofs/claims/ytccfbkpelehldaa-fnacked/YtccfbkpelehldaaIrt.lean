/-
  Contracts: round trips of the program: whether they are good, and a new sample.
-/
import Derived.Test.YtccfbkpelehldaaRts
import Derived.Laws.Cover1
namespace Go.Proofs.Ytccfbkpelehldaa.Rc
open Go.ChangeShapes Go.WideShapes Go.ChangeAt Go.RowKit Go.Deep
set_option linter.unusedVariables false
set_option maxRecDepth 100000

theorem btw (lo n hi : Int) (w : World) :
    Calls Try.prog 31 #[.int .i64 lo, .int .i64 n, .int .i64 hi] w fun e w' => e = .returned (.bool (decide (lo ≤ n) && decide (n ≤ hi))) ∧ w' = w := by
  by_cases h : lo ≤ n
  · have h1 : decide (lo ≤ n) = true := by simpa using h
    go_enter Try.func31, Try.ntmps31
    go_wp2
    go_ret
    exact ⟨by rw [h1]; rfl, rfl⟩
  · have h1 : decide (lo ≤ n) = false := by simpa using h
    go_enter Try.func31, Try.ntmps31
    go_wp2
    go_ret
    exact ⟨rfl, rfl⟩
theorem implTk (n : Int) (w : World) : Calls Try.prog 14 #[.int .i64 n] w fun e w' => e = .returned (.bool (tkB n)) ∧ w' = w := by
  have H := hide (btw 0 n 1000000000)
  go_enter Try.func14, Try.ntmps14
  go_wp2_with fail
  refine (unhide H _).mono ?_
  rintro e w1 ⟨rfl, h9⟩
  rw [h9]
  clear h9 w1
  go_wp2
  go_ret
  exact ⟨rfl, rfl⟩
theorem rt_alt (la mi sm va : Int) : rtB ⟨true, la, mi, sm, va⟩ = ((decide (0 ≤ mi) && decide (mi ≤ la)) && (tkB la && (tkB sm && tkB va))) := by
  have e : rtB ⟨true, la, mi, sm, va⟩ = (tkB mi && ((decide (mi ≤ la) && decide (la ≤ 1000000000)) && (tkB sm && tkB va))) := rfl
  rw [e]
  generalize (tkB sm && tkB va) = r
  cases r with
  | false => simp
  | true =>
    unfold tkB
    rw [Bool.eq_iff_iff]
    simp only [Bool.and_true, Bool.and_eq_true, decide_eq_true_eq]
    omega
set_option maxHeartbeats 2000000 in
theorem implRt (D : RttD) (w : World) : Calls Try.prog 33 #[rttV D] w fun e w' => e = .returned (.bool (rtB D)) ∧ Below w.heap.size w w' := by
  obtain ⟨kn, la, mi, sm, va⟩ := D
  cases kn with
  | false =>
    have HE : Hid (∀ la mi sm va : Int, rtB ⟨false, la, mi, sm, va⟩ = (decide (la = 0) && (decide (mi = 0) && (decide (sm = 0) && decide (va = 0))))) := fun _ _ _ _ => rfl
    go_enter Try.func33, Try.ntmps33
    go_wp2
    all_goals
      go_ret
      refine ⟨?_, (Below.refl _ _).alloc (Nat.le_refl _) _⟩
      rw [unhide HE]
      simp_all
  | true =>
    have T1 := hide (implTk la)
    have T2 := hide (implTk sm)
    have T3 := hide (implTk va)
    have I := hide (btw 0 mi la)
    rw [rt_alt]
    generalize tkB la = r1 at *
    generalize (decide (0 ≤ mi) && decide (mi ≤ la)) = r0 at *
    generalize tkB sm = r2 at *
    generalize tkB va = r3 at *
    cases r0
    case false =>
      go_enter Try.func33, Try.ntmps33
      go_wp2_with (first | (go_at_call 31; with_reducible refine (unhide I _).mono ?_; rintro e w1 ⟨rfl, h9⟩; rw [h9]; clear h9 w1))
      go_ret
      exact ⟨rfl, (Below.refl _ _).alloc (Nat.le_refl _) _⟩
    cases r1
    case false =>
      go_enter Try.func33, Try.ntmps33
      go_wp2_with (first | (go_at_call 31; with_reducible refine (unhide I _).mono ?_; rintro e w1 ⟨rfl, h9⟩; rw [h9]; clear h9 w1) | (go_at_call 14; with_reducible refine (unhide T1 _).mono ?_; rintro e w1 ⟨rfl, h9⟩; rw [h9]; clear h9 w1))
      go_ret
      exact ⟨rfl, (Below.refl _ _).alloc (Nat.le_refl _) _⟩
    cases r2
    case false =>
      go_enter Try.func33, Try.ntmps33
      go_wp2_with (first | (go_at_call 31; with_reducible refine (unhide I _).mono ?_; rintro e w1 ⟨rfl, h9⟩; rw [h9]; clear h9 w1) | (go_at_call 14; with_reducible refine (unhide T1 _).mono ?_; rintro e w1 ⟨rfl, h9⟩; rw [h9]; clear h9 w1) | (go_at_call 14; with_reducible refine (unhide T2 _).mono ?_; rintro e w1 ⟨rfl, h9⟩; rw [h9]; clear h9 w1))
      go_ret
      exact ⟨rfl, (Below.refl _ _).alloc (Nat.le_refl _) _⟩
    go_enter Try.func33, Try.ntmps33
    go_wp2_with (first | (go_at_call 31; with_reducible refine (unhide I _).mono ?_; rintro e w1 ⟨rfl, h9⟩; rw [h9]; clear h9 w1) | (go_at_call 14; with_reducible refine (unhide T1 _).mono ?_; rintro e w1 ⟨rfl, h9⟩; rw [h9]; clear h9 w1) | (go_at_call 14; with_reducible refine (unhide T2 _).mono ?_; rintro e w1 ⟨rfl, h9⟩; rw [h9]; clear h9 w1) | (go_at_call 14; with_reducible refine (unhide T3 _).mono ?_; rintro e w1 ⟨rfl, h9⟩; rw [h9]; clear h9 w1))
    go_ret
    exact ⟨rfl, (Below.refl _ _).alloc (Nat.le_refl _) _⟩
set_option maxHeartbeats 4000000 in
theorem implSm (pl mi sm va la de : Int) (w : World) (hD : rtB ⟨true, pl, mi, sm, va⟩ = true) (hl : tkB la = true) (hd : tkB de = true) :
    Calls Try.prog 44 #[rttV ⟨true, pl, mi, sm, va⟩, .int .i64 la, .int .i64 de] w fun e w' => e = .returned (rttV (smD ⟨true, pl, mi, sm, va⟩ la de)) ∧ Below w.heap.size w w' := by
  obtain ⟨l0, l1⟩ := tkB_yes hl
  obtain ⟨d0, d1⟩ := tkB_yes hd
  have g := hD
  unfold rtB at g
  simp only [if_true, Bool.and_eq_true, decide_eq_true_eq] at g
  obtain ⟨g1, ⟨g2, g3⟩, g4, g5⟩ := g
  obtain ⟨m0, m1⟩ := tkB_yes g1
  obtain ⟨s0, s1⟩ := tkB_yes g4
  obtain ⟨v0, v1⟩ := tkB_yes g5
  clear g1 g2 g3 g4 g5 hD hl hd
  by_cases h1 : la < mi
  · have e1 : smMi ⟨true, pl, mi, sm, va⟩ la = la := if_pos h1
    by_cases h2 : la ≤ la - de
    · have e2 : smAd ⟨true, pl, mi, sm, va⟩ la de = (la - de) := by unfold smAd; rw [e1]; exact if_pos h2
      by_cases h3 : sm - (la - de) < (la - de) - sm
      · have e3 : smAp ⟨true, pl, mi, sm, va⟩ la de = ((la - de) - sm) := by unfold smAp; rw [e2]; dsimp only; rw [if_pos (by omega)]; omega
        have HE : Hid (smD ⟨true, pl, mi, sm, va⟩ la de = ⟨true, la, la, (7 * sm + (la - de)) / 8, (3 * va + ((la - de) - sm)) / 4⟩) := by show smD _ _ _ = _; unfold smD; rw [if_pos rfl, e1, e2, e3]
        rw [unhide HE]
        clear HE e1 e2 e3
        go_enter Try.func44, Try.ntmps44
        go_wp2
        refine bodyPost_ret (v := rttV ⟨true, la, la, (7 * sm + (la - de)) / 8, (3 * va + ((la - de) - sm)) / 4⟩) (by simp [results, Try.results44, go_sem]) rfl ⟨rfl, ?_⟩
        exact ((Below.refl _ _).alloc (Nat.le_refl _) _).alloc (by simp) _
      · have e3 : smAp ⟨true, pl, mi, sm, va⟩ la de = (sm - (la - de)) := by unfold smAp; rw [e2]; dsimp only; rw [if_neg (by omega)]
        have HE : Hid (smD ⟨true, pl, mi, sm, va⟩ la de = ⟨true, la, la, (7 * sm + (la - de)) / 8, (3 * va + (sm - (la - de))) / 4⟩) := by show smD _ _ _ = _; unfold smD; rw [if_pos rfl, e1, e2, e3]
        rw [unhide HE]
        clear HE e1 e2 e3
        go_enter Try.func44, Try.ntmps44
        go_wp2
        refine bodyPost_ret (v := rttV ⟨true, la, la, (7 * sm + (la - de)) / 8, (3 * va + (sm - (la - de))) / 4⟩) (by simp [results, Try.results44, go_sem]) rfl ⟨rfl, ?_⟩
        exact ((Below.refl _ _).alloc (Nat.le_refl _) _).alloc (by simp) _
    · have e2 : smAd ⟨true, pl, mi, sm, va⟩ la de = la := by unfold smAd; rw [e1]; exact if_neg h2
      by_cases h3 : sm - la < la - sm
      · have e3 : smAp ⟨true, pl, mi, sm, va⟩ la de = (la - sm) := by unfold smAp; rw [e2]; dsimp only; rw [if_pos (by omega)]; omega
        have HE : Hid (smD ⟨true, pl, mi, sm, va⟩ la de = ⟨true, la, la, (7 * sm + la) / 8, (3 * va + (la - sm)) / 4⟩) := by show smD _ _ _ = _; unfold smD; rw [if_pos rfl, e1, e2, e3]
        rw [unhide HE]
        clear HE e1 e2 e3
        go_enter Try.func44, Try.ntmps44
        go_wp2
        refine bodyPost_ret (v := rttV ⟨true, la, la, (7 * sm + la) / 8, (3 * va + (la - sm)) / 4⟩) (by simp [results, Try.results44, go_sem]) rfl ⟨rfl, ?_⟩
        exact ((Below.refl _ _).alloc (Nat.le_refl _) _).alloc (by simp) _
      · have e3 : smAp ⟨true, pl, mi, sm, va⟩ la de = (sm - la) := by unfold smAp; rw [e2]; dsimp only; rw [if_neg (by omega)]
        have HE : Hid (smD ⟨true, pl, mi, sm, va⟩ la de = ⟨true, la, la, (7 * sm + la) / 8, (3 * va + (sm - la)) / 4⟩) := by show smD _ _ _ = _; unfold smD; rw [if_pos rfl, e1, e2, e3]
        rw [unhide HE]
        clear HE e1 e2 e3
        go_enter Try.func44, Try.ntmps44
        go_wp2
        refine bodyPost_ret (v := rttV ⟨true, la, la, (7 * sm + la) / 8, (3 * va + (sm - la)) / 4⟩) (by simp [results, Try.results44, go_sem]) rfl ⟨rfl, ?_⟩
        exact ((Below.refl _ _).alloc (Nat.le_refl _) _).alloc (by simp) _
  · have e1 : smMi ⟨true, pl, mi, sm, va⟩ la = mi := if_neg h1
    by_cases h2 : mi ≤ la - de
    · have e2 : smAd ⟨true, pl, mi, sm, va⟩ la de = (la - de) := by unfold smAd; rw [e1]; exact if_pos h2
      by_cases h3 : sm - (la - de) < (la - de) - sm
      · have e3 : smAp ⟨true, pl, mi, sm, va⟩ la de = ((la - de) - sm) := by unfold smAp; rw [e2]; dsimp only; rw [if_pos (by omega)]; omega
        have HE : Hid (smD ⟨true, pl, mi, sm, va⟩ la de = ⟨true, la, mi, (7 * sm + (la - de)) / 8, (3 * va + ((la - de) - sm)) / 4⟩) := by show smD _ _ _ = _; unfold smD; rw [if_pos rfl, e1, e2, e3]
        rw [unhide HE]
        clear HE e1 e2 e3
        go_enter Try.func44, Try.ntmps44
        go_wp2
        refine bodyPost_ret (v := rttV ⟨true, la, mi, (7 * sm + (la - de)) / 8, (3 * va + ((la - de) - sm)) / 4⟩) (by simp [results, Try.results44, go_sem]) rfl ⟨rfl, ?_⟩
        exact ((Below.refl _ _).alloc (Nat.le_refl _) _).alloc (by simp) _
      · have e3 : smAp ⟨true, pl, mi, sm, va⟩ la de = (sm - (la - de)) := by unfold smAp; rw [e2]; dsimp only; rw [if_neg (by omega)]
        have HE : Hid (smD ⟨true, pl, mi, sm, va⟩ la de = ⟨true, la, mi, (7 * sm + (la - de)) / 8, (3 * va + (sm - (la - de))) / 4⟩) := by show smD _ _ _ = _; unfold smD; rw [if_pos rfl, e1, e2, e3]
        rw [unhide HE]
        clear HE e1 e2 e3
        go_enter Try.func44, Try.ntmps44
        go_wp2
        refine bodyPost_ret (v := rttV ⟨true, la, mi, (7 * sm + (la - de)) / 8, (3 * va + (sm - (la - de))) / 4⟩) (by simp [results, Try.results44, go_sem]) rfl ⟨rfl, ?_⟩
        exact ((Below.refl _ _).alloc (Nat.le_refl _) _).alloc (by simp) _
    · have e2 : smAd ⟨true, pl, mi, sm, va⟩ la de = la := by unfold smAd; rw [e1]; exact if_neg h2
      by_cases h3 : sm - la < la - sm
      · have e3 : smAp ⟨true, pl, mi, sm, va⟩ la de = (la - sm) := by unfold smAp; rw [e2]; dsimp only; rw [if_pos (by omega)]; omega
        have HE : Hid (smD ⟨true, pl, mi, sm, va⟩ la de = ⟨true, la, mi, (7 * sm + la) / 8, (3 * va + (la - sm)) / 4⟩) := by show smD _ _ _ = _; unfold smD; rw [if_pos rfl, e1, e2, e3]
        rw [unhide HE]
        clear HE e1 e2 e3
        go_enter Try.func44, Try.ntmps44
        go_wp2
        refine bodyPost_ret (v := rttV ⟨true, la, mi, (7 * sm + la) / 8, (3 * va + (la - sm)) / 4⟩) (by simp [results, Try.results44, go_sem]) rfl ⟨rfl, ?_⟩
        exact ((Below.refl _ _).alloc (Nat.le_refl _) _).alloc (by simp) _
      · have e3 : smAp ⟨true, pl, mi, sm, va⟩ la de = (sm - la) := by unfold smAp; rw [e2]; dsimp only; rw [if_neg (by omega)]
        have HE : Hid (smD ⟨true, pl, mi, sm, va⟩ la de = ⟨true, la, mi, (7 * sm + la) / 8, (3 * va + (sm - la)) / 4⟩) := by show smD _ _ _ = _; unfold smD; rw [if_pos rfl, e1, e2, e3]
        rw [unhide HE]
        clear HE e1 e2 e3
        go_enter Try.func44, Try.ntmps44
        go_wp2
        refine bodyPost_ret (v := rttV ⟨true, la, mi, (7 * sm + la) / 8, (3 * va + (sm - la)) / 4⟩) (by simp [results, Try.results44, go_sem]) rfl ⟨rfl, ?_⟩
        exact ((Below.refl _ _).alloc (Nat.le_refl _) _).alloc (by simp) _
end Go.Proofs.Ytccfbkpelehldaa.Rc
