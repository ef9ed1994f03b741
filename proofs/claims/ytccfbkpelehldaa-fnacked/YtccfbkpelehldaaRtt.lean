/-
  Contracts: round trips of the model: whether they are good, and a new sample.
-/
import Derived.Test.YtccfbkpelehldaaInb
import Derived.Test.YtccfbkpelehldaaRcs
import Derived.Deep.QuietTactic
import Derived.Deep.RegionWith
import Derived.Deep.DeepCutAuto
import Derived.BigQuiet
namespace Go.Proofs.Ytccfbkpelehldaa.Rc
open Go.ChangeShapes Go.WideShapes Go.ChangeAt Go.RowKit Go.Deep
set_option linter.unusedVariables false
set_option maxRecDepth 100000

/-- a round trip -/
structure RttD where
  kn : Bool
  la : Int
  mi : Int
  sm : Int
  va : Int
abbrev rttC (D : RttD) : List Value := [.bool D.kn, .int .i64 D.la, .int .i64 D.mi, .int .i64 D.sm, .int .i64 D.va]
abbrev rttV (D : RttD) : Value := .agg #[.bool D.kn, .int .i64 D.la, .int .i64 D.mi, .int .i64 D.sm, .int .i64 D.va]
abbrev rttZ : Value := .agg #[.bool false, .int .i64 0, .int .i64 0, .int .i64 0, .int .i64 0]
/-- a tick -/
def tkB (n : Int) : Bool := decide (0 ≤ n) && decide (n ≤ 1000000000)
theorem tkB_yes {n : Int} (h : tkB n = true) : 0 ≤ n ∧ n ≤ 1000000000 := by unfold tkB at h; simpa using h
/-- whether a round trip is good -/
def rtB (D : RttD) : Bool := if D.kn = true then tkB D.mi && ((decide (D.mi ≤ D.la) && decide (D.la ≤ 1000000000)) && (tkB D.sm && tkB D.va)) else decide (D.la = 0) && (decide (D.mi = 0) && (decide (D.sm = 0) && decide (D.va = 0)))
/-- the least that was seen -/
def smMi (D : RttD) (la : Int) : Int := if la < D.mi then la else D.mi
/-- what a sample counts -/
def smAd (D : RttD) (la de : Int) : Int := if smMi D la ≤ la - de then la - de else la
/-- how far it is from what was -/
def smAp (D : RttD) (la de : Int) : Int := if D.sm - smAd D la de < 0 then -(D.sm - smAd D la de) else D.sm - smAd D la de
/-- a new sample -/
def smD (D : RttD) (la de : Int) : RttD := if D.kn = true then ⟨true, la, smMi D la, (7 * D.sm + smAd D la de) / 8, (3 * D.va + smAp D la de) / 4⟩ else ⟨true, la, la, la, la / 2⟩
theorem specTk (n : Int) (w : World) : Calls Try.prog 26 #[.int .i64 n] w fun e w' => e = .returned (.bool (tkB n)) ∧ w' = w := by
  have H := hide (inB n 0 1000000000)
  go_enter Try.func26, Try.ntmps26
  go_wp2_with fail
  refine (unhide H _).mono ?_
  rintro e w1 ⟨rfl, h9⟩
  rw [h9]
  clear h9 w1
  go_wp2
  go_ret
  exact ⟨rfl, rfl⟩
set_option maxHeartbeats 2000000 in
theorem specRt (D : RttD) (w : World) : Calls Try.prog 48 #[rttV D] w fun e w' => e = .returned (.bool (rtB D)) ∧ Below w.heap.size w w' := by
  obtain ⟨kn, la, mi, sm, va⟩ := D
  cases kn with
  | false =>
    have HE : Hid (∀ la mi sm va : Int, rtB ⟨false, la, mi, sm, va⟩ = (decide (la = 0) && (decide (mi = 0) && (decide (sm = 0) && decide (va = 0))))) := fun _ _ _ _ => rfl
    go_enter Try.func48, Try.ntmps48
    go_wp2
    all_goals
      go_ret
      refine ⟨?_, (Below.refl _ _).alloc (Nat.le_refl _) _⟩
      rw [unhide HE]
      simp_all
  | true =>
    have T1 := hide (specTk mi)
    have T2 := hide (specTk sm)
    have T3 := hide (specTk va)
    have I := hide (inB la mi 1000000000)
    have HE : Hid (rtB ⟨true, la, mi, sm, va⟩ = (tkB mi && ((decide (mi ≤ la) && decide (la ≤ 1000000000)) && (tkB sm && tkB va)))) := rfl
    rw [unhide HE]
    clear HE
    generalize tkB mi = r0 at *
    generalize (decide (mi ≤ la) && decide (la ≤ 1000000000)) = r1 at *
    generalize tkB sm = r2 at *
    generalize tkB va = r3 at *
    cases r0
    case false =>
      go_enter Try.func48, Try.ntmps48
      go_wp2_with (go_at_call 26; refine (unhide T1 _).mono ?_; rintro e w1 ⟨rfl, h9⟩; rw [h9]; clear h9 w1)
      go_ret
      exact ⟨rfl, (Below.refl _ _).alloc (Nat.le_refl _) _⟩
    cases r1
    case false =>
      go_enter Try.func48, Try.ntmps48
      go_wp2_with (first | (go_at_call 26; refine (unhide T1 _).mono ?_; rintro e w1 ⟨rfl, h9⟩; rw [h9]; clear h9 w1) | (go_at_call 47; refine (unhide I _).mono ?_; rintro e w1 ⟨rfl, h9⟩; rw [h9]; clear h9 w1))
      go_ret
      exact ⟨rfl, (Below.refl _ _).alloc (Nat.le_refl _) _⟩
    cases r2
    case false =>
      go_enter Try.func48, Try.ntmps48
      go_wp2_with (first | (go_at_call 47; refine (unhide I _).mono ?_; rintro e w1 ⟨rfl, h9⟩; rw [h9]; clear h9 w1) | (go_at_call 26; with_reducible refine (unhide T1 _).mono ?_; rintro e w1 ⟨rfl, h9⟩; rw [h9]; clear h9 w1) | (go_at_call 26; with_reducible refine (unhide T2 _).mono ?_; rintro e w1 ⟨rfl, h9⟩; rw [h9]; clear h9 w1))
      go_ret
      exact ⟨rfl, (Below.refl _ _).alloc (Nat.le_refl _) _⟩
    go_enter Try.func48, Try.ntmps48
    go_wp2_with (first | (go_at_call 47; refine (unhide I _).mono ?_; rintro e w1 ⟨rfl, h9⟩; rw [h9]; clear h9 w1) | (go_at_call 26; with_reducible refine (unhide T1 _).mono ?_; rintro e w1 ⟨rfl, h9⟩; rw [h9]; clear h9 w1) | (go_at_call 26; with_reducible refine (unhide T2 _).mono ?_; rintro e w1 ⟨rfl, h9⟩; rw [h9]; clear h9 w1) | (go_at_call 26; with_reducible refine (unhide T3 _).mono ?_; rintro e w1 ⟨rfl, h9⟩; rw [h9]; clear h9 w1))
    go_ret
    exact ⟨rfl, (Below.refl _ _).alloc (Nat.le_refl _) _⟩
set_option maxHeartbeats 4000000 in
theorem specSm (D : RttD) (la de : Int) (w : World) (hD : rtB D = true) (hl : tkB la = true) (hd : tkB de = true) :
    Calls Try.prog 29 #[rttV D, .int .i64 la, .int .i64 de] w fun e w' => e = .returned (rttV (smD D la de)) ∧ Below w.heap.size w w' := by
  obtain ⟨l0, l1⟩ := tkB_yes hl
  obtain ⟨d0, d1⟩ := tkB_yes hd
  obtain ⟨kn, pl, mi, sm, va⟩ := D
  cases kn with
  | false =>
    have HE : Hid (smD ⟨false, pl, mi, sm, va⟩ la de = ⟨true, la, la, la, la / 2⟩) := rfl
    rw [unhide HE]
    clear HE hD hl hd
    go_enter Try.func29, Try.ntmps29
    go_wp2
    refine bodyPost_ret (v := rttV ⟨true, la, la, la, la / 2⟩) (by simp [results, Try.results29, go_sem]) rfl ⟨rfl, ?_⟩
    exact ((Below.refl _ _).alloc (Nat.le_refl _) _).alloc (by simp) _
  | true =>
    have g := hD
    unfold rtB at g
    simp only [if_true, Bool.and_eq_true, decide_eq_true_eq] at g
    obtain ⟨g1, ⟨g2, g3⟩, g4, g5⟩ := g
    obtain ⟨m0, m1⟩ := tkB_yes g1
    obtain ⟨s0, s1⟩ := tkB_yes g4
    obtain ⟨v0, v1⟩ := tkB_yes g5
    clear g1 g2 g3 g4 g5 hD hl hd
    by_cases h1 : la < mi
    · have e1 : smMi ⟨true, pl, mi, sm, va⟩ la = la := if_pos h1
      by_cases h2 : la ≤ la - de
      · have e2 : smAd ⟨true, pl, mi, sm, va⟩ la de = (la - de) := by unfold smAd; rw [e1]; exact if_pos h2
        by_cases h3 : sm - (la - de) < 0
        · have e3 : smAp ⟨true, pl, mi, sm, va⟩ la de = -(sm - (la - de)) := by unfold smAp; rw [e2]; exact if_pos h3
          have HE : Hid (smD ⟨true, pl, mi, sm, va⟩ la de = ⟨true, la, la, (7 * sm + (la - de)) / 8, (3 * va + (-(sm - (la - de)))) / 4⟩) := by show smD _ _ _ = _; unfold smD; rw [if_pos rfl, e1, e2, e3]
          rw [unhide HE]
          clear HE e1 e2 e3
          go_enter Try.func29, Try.ntmps29
          go_wp2
          refine bodyPost_ret (v := rttV ⟨true, la, la, (7 * sm + (la - de)) / 8, (3 * va + (-(sm - (la - de)))) / 4⟩) (by simp [results, Try.results29, go_sem]) rfl ⟨rfl, ?_⟩
          exact ((Below.refl _ _).alloc (Nat.le_refl _) _).alloc (by simp) _
        · have e3 : smAp ⟨true, pl, mi, sm, va⟩ la de = sm - (la - de) := by unfold smAp; rw [e2]; exact if_neg h3
          have HE : Hid (smD ⟨true, pl, mi, sm, va⟩ la de = ⟨true, la, la, (7 * sm + (la - de)) / 8, (3 * va + (sm - (la - de))) / 4⟩) := by show smD _ _ _ = _; unfold smD; rw [if_pos rfl, e1, e2, e3]
          rw [unhide HE]
          clear HE e1 e2 e3
          go_enter Try.func29, Try.ntmps29
          go_wp2
          refine bodyPost_ret (v := rttV ⟨true, la, la, (7 * sm + (la - de)) / 8, (3 * va + (sm - (la - de))) / 4⟩) (by simp [results, Try.results29, go_sem]) rfl ⟨rfl, ?_⟩
          exact ((Below.refl _ _).alloc (Nat.le_refl _) _).alloc (by simp) _
      · have e2 : smAd ⟨true, pl, mi, sm, va⟩ la de = la := by unfold smAd; rw [e1]; exact if_neg h2
        by_cases h3 : sm - la < 0
        · have e3 : smAp ⟨true, pl, mi, sm, va⟩ la de = -(sm - la) := by unfold smAp; rw [e2]; exact if_pos h3
          have HE : Hid (smD ⟨true, pl, mi, sm, va⟩ la de = ⟨true, la, la, (7 * sm + la) / 8, (3 * va + (-(sm - la))) / 4⟩) := by show smD _ _ _ = _; unfold smD; rw [if_pos rfl, e1, e2, e3]
          rw [unhide HE]
          clear HE e1 e2 e3
          go_enter Try.func29, Try.ntmps29
          go_wp2
          refine bodyPost_ret (v := rttV ⟨true, la, la, (7 * sm + la) / 8, (3 * va + (-(sm - la))) / 4⟩) (by simp [results, Try.results29, go_sem]) rfl ⟨rfl, ?_⟩
          exact ((Below.refl _ _).alloc (Nat.le_refl _) _).alloc (by simp) _
        · have e3 : smAp ⟨true, pl, mi, sm, va⟩ la de = sm - la := by unfold smAp; rw [e2]; exact if_neg h3
          have HE : Hid (smD ⟨true, pl, mi, sm, va⟩ la de = ⟨true, la, la, (7 * sm + la) / 8, (3 * va + (sm - la)) / 4⟩) := by show smD _ _ _ = _; unfold smD; rw [if_pos rfl, e1, e2, e3]
          rw [unhide HE]
          clear HE e1 e2 e3
          go_enter Try.func29, Try.ntmps29
          go_wp2
          refine bodyPost_ret (v := rttV ⟨true, la, la, (7 * sm + la) / 8, (3 * va + (sm - la)) / 4⟩) (by simp [results, Try.results29, go_sem]) rfl ⟨rfl, ?_⟩
          exact ((Below.refl _ _).alloc (Nat.le_refl _) _).alloc (by simp) _
    · have e1 : smMi ⟨true, pl, mi, sm, va⟩ la = mi := if_neg h1
      by_cases h2 : mi ≤ la - de
      · have e2 : smAd ⟨true, pl, mi, sm, va⟩ la de = (la - de) := by unfold smAd; rw [e1]; exact if_pos h2
        by_cases h3 : sm - (la - de) < 0
        · have e3 : smAp ⟨true, pl, mi, sm, va⟩ la de = -(sm - (la - de)) := by unfold smAp; rw [e2]; exact if_pos h3
          have HE : Hid (smD ⟨true, pl, mi, sm, va⟩ la de = ⟨true, la, mi, (7 * sm + (la - de)) / 8, (3 * va + (-(sm - (la - de)))) / 4⟩) := by show smD _ _ _ = _; unfold smD; rw [if_pos rfl, e1, e2, e3]
          rw [unhide HE]
          clear HE e1 e2 e3
          go_enter Try.func29, Try.ntmps29
          go_wp2
          refine bodyPost_ret (v := rttV ⟨true, la, mi, (7 * sm + (la - de)) / 8, (3 * va + (-(sm - (la - de)))) / 4⟩) (by simp [results, Try.results29, go_sem]) rfl ⟨rfl, ?_⟩
          exact ((Below.refl _ _).alloc (Nat.le_refl _) _).alloc (by simp) _
        · have e3 : smAp ⟨true, pl, mi, sm, va⟩ la de = sm - (la - de) := by unfold smAp; rw [e2]; exact if_neg h3
          have HE : Hid (smD ⟨true, pl, mi, sm, va⟩ la de = ⟨true, la, mi, (7 * sm + (la - de)) / 8, (3 * va + (sm - (la - de))) / 4⟩) := by show smD _ _ _ = _; unfold smD; rw [if_pos rfl, e1, e2, e3]
          rw [unhide HE]
          clear HE e1 e2 e3
          go_enter Try.func29, Try.ntmps29
          go_wp2
          refine bodyPost_ret (v := rttV ⟨true, la, mi, (7 * sm + (la - de)) / 8, (3 * va + (sm - (la - de))) / 4⟩) (by simp [results, Try.results29, go_sem]) rfl ⟨rfl, ?_⟩
          exact ((Below.refl _ _).alloc (Nat.le_refl _) _).alloc (by simp) _
      · have e2 : smAd ⟨true, pl, mi, sm, va⟩ la de = la := by unfold smAd; rw [e1]; exact if_neg h2
        by_cases h3 : sm - la < 0
        · have e3 : smAp ⟨true, pl, mi, sm, va⟩ la de = -(sm - la) := by unfold smAp; rw [e2]; exact if_pos h3
          have HE : Hid (smD ⟨true, pl, mi, sm, va⟩ la de = ⟨true, la, mi, (7 * sm + la) / 8, (3 * va + (-(sm - la))) / 4⟩) := by show smD _ _ _ = _; unfold smD; rw [if_pos rfl, e1, e2, e3]
          rw [unhide HE]
          clear HE e1 e2 e3
          go_enter Try.func29, Try.ntmps29
          go_wp2
          refine bodyPost_ret (v := rttV ⟨true, la, mi, (7 * sm + la) / 8, (3 * va + (-(sm - la))) / 4⟩) (by simp [results, Try.results29, go_sem]) rfl ⟨rfl, ?_⟩
          exact ((Below.refl _ _).alloc (Nat.le_refl _) _).alloc (by simp) _
        · have e3 : smAp ⟨true, pl, mi, sm, va⟩ la de = sm - la := by unfold smAp; rw [e2]; exact if_neg h3
          have HE : Hid (smD ⟨true, pl, mi, sm, va⟩ la de = ⟨true, la, mi, (7 * sm + la) / 8, (3 * va + (sm - la)) / 4⟩) := by show smD _ _ _ = _; unfold smD; rw [if_pos rfl, e1, e2, e3]
          rw [unhide HE]
          clear HE e1 e2 e3
          go_enter Try.func29, Try.ntmps29
          go_wp2
          refine bodyPost_ret (v := rttV ⟨true, la, mi, (7 * sm + la) / 8, (3 * va + (sm - la)) / 4⟩) (by simp [results, Try.results29, go_sem]) rfl ⟨rfl, ?_⟩
          exact ((Below.refl _ _).alloc (Nat.le_refl _) _).alloc (by simp) _
end Go.Proofs.Ytccfbkpelehldaa.Rc
