/-
  Contracts: which fields are good, of both sides.
-/
import Derived.Test.YtidgjjbdabifnabDoorFpf
import Derived.Test.YtidgjjbdabifnabDoorFpa
import Derived.Test.YtidgjjbdabifnabDoorBkd
import Derived.Test.YtidgjjbdabifnabDoorWtn
namespace Go.Proofs.YtidgjjbdabifnabDoor.Rc
open Go.ChangeShapes Go.WideShapes Go.ChangeAt Go.RowKit Go.Deep
set_option linter.unusedVariables false
set_option maxRecDepth 100000

theorem nmB_is (s : ByteArray) (i u : Nat) (h : by0 s i = u) : nmB s i = (ldB (u : Int) || decide (u = 45) || (decide (u = 58) && decide (i = 0))) := by
  unfold nmB ldB
  rw [h]
  have e1 : decide (97 ≤ u) = decide ((97 : Int) ≤ (u : Int)) := decide_eq_decide.2 (by omega)
  have e2 : decide (u ≤ 122) = decide ((u : Int) ≤ 122) := decide_eq_decide.2 (by omega)
  have e3 : decide (48 ≤ u) = decide ((48 : Int) ≤ (u : Int)) := decide_eq_decide.2 (by omega)
  have e4 : decide (u ≤ 57) = decide ((u : Int) ≤ 57) := decide_eq_decide.2 (by omega)
  rw [e1, e2, e3, e4]
set_option maxHeartbeats 2000000 in
theorem implNm (s : ByteArray) (w : World) (hs : s.size ≤ maxLen) : Calls Tryd.prog 36 #[.string s] w fun e w' => e = .returned (.bool (gdN s)) ∧ w' = w := by
  unfold maxLen at hs
  have H1 := hide (btP 1 s.size 100)
  unfold gdN
  have eD : (decide (1 ≤ s.size) && decide (s.size ≤ 100)) = (decide ((1 : Int) ≤ (s.size : Int)) && decide ((s.size : Int) ≤ 100)) := by
    rw [show decide (1 ≤ s.size) = decide ((1 : Int) ≤ (s.size : Int)) from decide_eq_decide.2 (by omega), show decide (s.size ≤ 100) = decide ((s.size : Int) ≤ 100) from decide_eq_decide.2 (by omega)]
  rw [eD]
  cases hB : (decide ((1 : Int) ≤ (s.size : Int)) && decide ((s.size : Int) ≤ 100)) with
  | false =>
    rw [hB] at H1
    clear eD hB
    go_enter Tryd.func36, Tryd.ntmps36
    go_wp2_with fail
    refine (unhide H1 _).mono ?_
    rintro e w1 ⟨rfl, h9⟩
    rw [h9]
    clear h9 w1
    go_wp2
    go_ret
    exact ⟨rfl, rfl⟩
  | true =>
    rw [hB] at H1
    clear eD hB
    rw [Bool.true_and]
    go_enter Tryd.func36, Tryd.ntmps36
    go_wp2_with fail
    refine (unhide H1 _).mono ?_
    rintro e w1 ⟨rfl, h9⟩
    rw [h9]
    clear h9 w1
    go_wp2_with fail
    go_loopw [10] (fun i wr => ∃ k : Nat, k ≤ s.size ∧ i = .int .i64 k ∧ Hid (allB (nmB s) k = true) ∧ wr = w) (fun i _ => s.size - (intOf i).toNat)
    case atStart => exact ⟨0, Nat.zero_le _, rfl, rfl, rfl⟩
    case round =>
      obtain ⟨k, hk, rfl, hA, rfl⟩ := hrel
      by_cases hlt : k < s.size
      · have hsk := by0_at s k hlt
        have hub := by0_lt s k
        have hN := nmB_is s k (by0 s k) rfl
        have HNO := hide (fun h => allB_no (p := nmB s) hlt h)
        have HYE := hide (allB_succ (nmB s) k)
        generalize by0 s k = u at *
        have HC := hide (ld_any (u : Int) (by omega) (by omega))
        cases hl : ldB (u : Int) with
        | true =>
          have hA2 : Hid (allB (nmB s) (k + 1) = true) := by rw [unhide HYE, unhide hA, hN, hl]; rfl
          rw [hl] at HC
          clear hN hl
          go_wp2_with fail
          refine (unhide HC _).mono ?_
          rintro e w1 ⟨rfl, h9⟩
          rw [h9]
          clear h9 w1
          go_wp2
          exact ⟨⟨k + 1, by omega, by go_num, hA2, by trivial⟩, by simp [intOf]; omega⟩
        | false =>
          rw [hl] at HC hN
          rw [Bool.false_or] at hN
          by_cases h45 : u = 45
          · have hA2 : Hid (allB (nmB s) (k + 1) = true) := by rw [unhide HYE, unhide hA, hN, decide_eq_true h45]; rfl
            have h45i := hide (show (u : Int) = 45 by omega)
            clear hN hl h45
            go_wp2_with fail
            refine (unhide HC _).mono ?_
            rintro e w1 ⟨rfl, h9⟩
            rw [h9]
            clear h9 w1
            replace h45i := unhide h45i
            clear HC
            go_wp2
            exact ⟨⟨k + 1, by omega, by go_num, hA2, by trivial⟩, by simp [intOf]; omega⟩
          · have h45i := hide (show ¬ (u : Int) = 45 by omega)
            rw [decide_eq_false h45, Bool.false_or] at hN
            by_cases h58 : u = 58
            · have h58i := hide (show (u : Int) = 58 by omega)
              rw [decide_eq_true h58, Bool.true_and] at hN
              by_cases hk0 : k = 0
              · have hA2 : Hid (allB (nmB s) (k + 1) = true) := by rw [unhide HYE, unhide hA, hN, decide_eq_true hk0]; rfl
                have hk0i : ¬ (0 : Int) < (k : Int) := by omega
                clear hN hl h45 h58 hk0
                go_wp2_with fail
                refine (unhide HC _).mono ?_
                rintro e w1 ⟨rfl, h9⟩
                rw [h9]
                clear h9 w1
                replace h45i := unhide h45i
                replace h58i := unhide h58i
                clear HC
                go_wp2
                exact ⟨⟨k + 1, by omega, by go_num, hA2, by trivial⟩, by simp [intOf]; omega⟩
              · have hE := hide (unhide HNO (by rw [hN]; exact decide_eq_false hk0))
                have hk0i : (0 : Int) < (k : Int) := by omega
                clear hN hl h45 h58 hk0
                go_wp2_with fail
                refine (unhide HC _).mono ?_
                rintro e w1 ⟨rfl, h9⟩
                rw [h9]
                clear h9 w1
                replace h45i := unhide h45i
                replace h58i := unhide h58i
                clear HC
                go_wp2
                go_ret
                exact ⟨by rw [unhide hE]; rfl, rfl⟩
            · have h58i := hide (show ¬ (u : Int) = 58 by omega)
              have hE := hide (unhide HNO (by rw [hN, decide_eq_false h58]; rfl))
              clear hN hl h45 h58
              go_wp2_with fail
              refine (unhide HC _).mono ?_
              rintro e w1 ⟨rfl, h9⟩
              rw [h9]
              clear h9 w1
              replace h45i := unhide h45i
              replace h58i := unhide h58i
              clear HC
              go_wp2
              go_ret
              exact ⟨by rw [unhide hE]; rfl, rfl⟩
      · obtain rfl : k = s.size := by omega
        go_wp2
        go_ret
        exact ⟨by rw [unhide hA]; rfl, rfl⟩
set_option maxHeartbeats 2000000 in
theorem specNm (s : ByteArray) (w : World) (hs : s.size ≤ maxLen) : Calls Tryd.prog 40 #[.string s] w fun e w' => e = .returned (.bool (gdN s)) ∧ w' = w := by
  unfold maxLen at hs
  have H1 := hide (l1In_any s.size 1 100)
  have eD : gdN s = ((decide ((1 : Int) ≤ (s.size : Int)) && decide ((s.size : Int) ≤ 100)) && allB (nmB s) s.size) := by
    unfold gdN
    rw [show decide (1 ≤ s.size) = decide ((1 : Int) ≤ (s.size : Int)) from decide_eq_decide.2 (by omega), show decide (s.size ≤ 100) = decide ((s.size : Int) ≤ 100) from decide_eq_decide.2 (by omega)]
  rw [eD]
  clear eD
  generalize (decide ((1 : Int) ≤ (s.size : Int)) && decide ((s.size : Int) ≤ 100)) = r at *
  go_enter Tryd.func40, Tryd.ntmps40
  go_wp2_with fail
  go_loopw [3] (fun i wr => ∃ k : Nat, k ≤ s.size ∧ i = .int .i64 k ∧ Hid (allB (nmB s) k = true) ∧ wr = w) (fun i _ => s.size - (intOf i).toNat)
  case atStart => exact ⟨0, Nat.zero_le _, rfl, rfl, rfl⟩
  case round =>
    obtain ⟨k, hk, rfl, hA, rfl⟩ := hrel
    by_cases hlt : k < s.size
    · have hsk := by0_at s k hlt
      have hub := by0_lt s k
      have hN := nmB_is s k (by0 s k) rfl
      have HNO := hide (fun h => allB_no (p := nmB s) hlt h)
      have HYE := hide (allB_succ (nmB s) k)
      generalize by0 s k = u at *
      have OKT : nmB s k = true → Hid (allB (nmB s) (k + 1) = true) := fun h => by show _ = _; rw [unhide HYE, unhide hA, h]; rfl
      have HNB := hide hN
      have HLT := hide hlt
      have HUB := hide hub
      clear hN
      go_upto_region 5 with fail
      clear hsk
      have hlt := unhide HLT
      by_cases c1 : (97 : Int) ≤ (u : Int) <;> by_cases c2 : (u : Int) ≤ 122 <;> by_cases c3 : (48 : Int) ≤ (u : Int) <;> by_cases c4 : (u : Int) ≤ 57 <;> by_cases c5 : (u : Int) = 45 <;> by_cases c6 : (u : Int) = 58 <;> by_cases c7 : (k : Int) = 0 <;> first | (exfalso; omega) | skip
      all_goals
        have e5 : decide (u = 45) = decide ((u : Int) = 45) := decide_eq_decide.2 (by omega)
        have e6 : decide (u = 58) = decide ((u : Int) = 58) := decide_eq_decide.2 (by omega)
        have e7 : decide (k = 0) = decide ((k : Int) = 0) := decide_eq_decide.2 (by omega)
        rw [e5, e6, e7] at HNB
        clear e5 e6 e7
      all_goals
        have hn := unhide HNB
        unfold ldB at hn
        simp only [c1, c2, c3, c4, c5, c6, c7, decide_true, decide_false, Bool.and_true, Bool.and_false, Bool.or_true, Bool.or_false, Bool.true_or] at hn
      all_goals
        have d5 : ((u : Int) == 45) = decide ((u : Int) = 45) := rfl
        have d6 : ((u : Int) == 58) = decide ((u : Int) = 58) := rfl
        have d7 : ((k : Int) == 0) = decide ((k : Int) = 0) := rfl
        simp only [c5, c6, c7, decide_true, decide_false] at d5 d6 d7
      all_goals first
        | (have hA2 := OKT hn
           clear hn
           go_wp2
           exact ⟨⟨k + 1, by omega, by go_num, hA2, by trivial⟩, by simp [intOf]; omega⟩)
        | (have hE := hide (unhide HNO hn)
           clear hn
           go_wp2
           go_ret
           exact ⟨by rw [unhide hE, Bool.and_false]; rfl, rfl⟩)
    · obtain rfl : k = s.size := by omega
      go_wp2_with fail
      refine (unhide H1 _).mono ?_
      rintro e w1 ⟨rfl, h9⟩
      rw [← h9]
      clear h9 w1
      go_wp2
      go_ret
      exact ⟨by rw [unhide hA, Bool.and_true]; rfl, rfl⟩
end Go.Proofs.YtidgjjbdabifnabDoor.Rc
