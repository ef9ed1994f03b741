/-
  Contracts: GoodLive of both sides; the model's place of a text.
-/
import Derived.Test.YtbabipaipbjlbaaRswX
import Derived.Laws.Cover1
namespace Go.Proofs.Ytbabipaipbjlbaa
open Go.ChangeShapes Go.WideShapes Go.ChangeAt Go.RowKit
set_option linter.unusedVariables false
set_option maxRecDepth 100000

theorem okB_n {F : Nat → ByteArray} {k : Nat} (h : bkB (F k) = false) : okB F k = false := by unfold okB; rw [h]; rfl
theorem okB_0 {F : Nat → ByteArray} (h : bkB (F 0) = true) : okB F 0 = true := by unfold okB; rw [h]; rfl
theorem okB_s {F : Nat → ByteArray} {k : Nat} (h : bkB (F k) = true) (hk : 0 < k) : okB F k = lsT (F (k - 1)) (F k) := by
  unfold okB
  rw [h, decide_eq_false (show ¬ k = 0 by omega), Bool.false_or, Bool.true_and]
set_option maxHeartbeats 1000000 in
theorem implGL (a : Option Addr) (n cap : Nat) (F : Nat → ByteArray) (w : World) (hn : n ≤ 1048576) (hs : ∀ i, i < n → (F i).size ≤ 1048576) (h : Sa w a n F) :
    Calls Try.prog 61 #[.slice a n cap] w fun e w' => e = .returned (.bool (glB F n)) ∧ w' = w := by
  unfold glB
  by_cases h12 : n ≤ 12
  case neg =>
    rw [decide_eq_false h12, Bool.false_and]
    go_enter Try.func61, Try.ntmps61
    go_wp2
    go_ret
    exact ⟨rfl, rfl⟩
  rw [decide_eq_true h12, Bool.true_and]
  have HR := hide h
  have HS := hide hs
  clear h hs
  go_enter Try.func61, Try.ntmps61
  go_wp2
  go_loopw [10] (fun i wr => ∃ k : Nat, k ≤ n ∧ i = .int .i64 k ∧ okV F k = true ∧ wr = w) (fun i _ => n - (intOf i).toNat)
  case atStart => exact ⟨0, Nat.zero_le _, rfl, rfl, rfl⟩
  case round =>
    obtain ⟨k, hk, rfl, hA, rfl⟩ := hrel
    by_cases hlt : k < n
    · rcases unhide HR with h0 | ⟨b, o, e, h1⟩
      · omega
      subst e
      have hcf := h1.c k hlt
      have hnk : (k : Int) < (n : Int) := by omega
      have HC := hide (fun W => implGB (F k) W (by have := unhide HS k hlt; unfold maxLen; omega))
      by_cases c : bkB (F k) = true
      case neg =>
        have c' := Bool.eq_false_iff.2 c
        have hE := hide (okV_no F hlt (okB_n c'))
        rw [c'] at HC
        clear h1 hA c c'
        generalize F k = t at *
        go_wp2_with fail
        refine (unhide HC _).mono ?_
        rintro e w1 ⟨rfl, z1⟩
        subst w1
        go_wp2
        go_ret
        exact ⟨by rw [unhide hE]; rfl, rfl⟩
      rw [c] at HC
      by_cases k0 : k = 0
      · subst k0
        have hA2 : Hid (okV F 1 = true) := by show _ = _; rw [okV, hA, okB_0 c]; rfl
        clear h1 hA c
        rw [Nat.add_zero] at hcf
        generalize F 0 = t at *
        go_wp2_with fail
        refine (unhide HC _).mono ?_
        rintro e w1 ⟨rfl, z1⟩
        subst w1
        go_wp2
        exact ⟨⟨1, by omega, by go_num, unhide hA2, by trivial⟩, by simp [intOf]; omega⟩
      have hk0 : (0 : Int) < (k : Int) := by omega
      have hkn : ¬ ((k : Int) = 0) := by omega
      have hcp := h1.c (k - 1) (by omega)
      have eB := okB_s c (show 0 < k by omega)
      by_cases d : lsT (F (k - 1)) (F k) = true
      · have hA2 : Hid (okV F (k + 1) = true) := by show _ = _; rw [okV, hA, eB, d]; rfl
        clear h1 hA c eB
        unfold lsT at d
        generalize F k = t at *
        generalize F (k - 1) = t1 at *
        obtain ⟨m, rfl⟩ : ∃ m, k = m + 1 := ⟨k - 1, by omega⟩
        rw [Nat.add_sub_cancel] at hcp
        go_wp2_with fail
        refine (unhide HC _).mono ?_
        rintro e w1 ⟨rfl, z1⟩
        subst w1
        go_wp2
        exact ⟨⟨m + 1 + 1, by omega, by go_num, unhide hA2, by trivial⟩, by simp [intOf]; omega⟩
      · have d' := Bool.eq_false_iff.2 d
        have hE := hide (okV_no F hlt (eB.trans d'))
        clear h1 hA c eB d
        unfold lsT at d'
        generalize F k = t at *
        generalize F (k - 1) = t1 at *
        obtain ⟨m, rfl⟩ : ∃ m, k = m + 1 := ⟨k - 1, by omega⟩
        rw [Nat.add_sub_cancel] at hcp
        go_wp2_with fail
        refine (unhide HC _).mono ?_
        rintro e w1 ⟨rfl, z1⟩
        subst w1
        go_wp2
        go_ret
        exact ⟨by rw [unhide hE]; rfl, rfl⟩
    · obtain rfl : k = n := by omega
      have HA := hide hA
      clear hA
      go_wp2
      go_ret
      exact ⟨by rw [unhide HA]; rfl, rfl⟩
set_option maxHeartbeats 1000000 in
theorem specGL (a : Option Addr) (n cap : Nat) (F : Nat → ByteArray) (w : World) (hn : n ≤ 1048576) (hs : ∀ i, i < n → (F i).size ≤ 1048576) (h : Sa w a n F) :
    Calls Try.prog 57 #[.slice a n cap] w fun e w' => e = .returned (.bool (glB F n)) ∧ w' = w := by
  unfold glB
  have HR := hide h
  have HS := hide hs
  clear h hs
  go_enter Try.func57, Try.ntmps57
  go_wp2
  go_loopw [7] (fun i wr => ∃ k : Nat, k ≤ n ∧ i = .int .i64 k ∧ okV F k = true ∧ wr = w) (fun i _ => n - (intOf i).toNat)
  case atStart => exact ⟨0, Nat.zero_le _, rfl, rfl, rfl⟩
  case round =>
    obtain ⟨k, hk, rfl, hA, rfl⟩ := hrel
    by_cases hlt : k < n
    · rcases unhide HR with h0 | ⟨b, o, e, h1⟩
      · omega
      subst e
      have hcf := h1.c k hlt
      have hnk : (k : Int) < (n : Int) := by omega
      have HC := hide (fun W => specBk (F k) W (by have := unhide HS k hlt; unfold maxLen; omega))
      by_cases c : bkB (F k) = true
      case neg =>
        have c' := Bool.eq_false_iff.2 c
        have hE := hide (okV_no F hlt (okB_n c'))
        rw [c'] at HC
        clear h1 hA c c'
        generalize F k = t at *
        go_wp2_with fail
        refine (unhide HC _).mono ?_
        rintro e w1 ⟨rfl, z1⟩
        subst w1
        go_wp2
        go_ret
        exact ⟨by rw [unhide hE, Bool.and_false]; rfl, rfl⟩
      rw [c] at HC
      by_cases k0 : k = 0
      · subst k0
        have hA2 : Hid (okV F 1 = true) := by show _ = _; rw [okV, hA, okB_0 c]; rfl
        clear h1 hA c
        rw [Nat.add_zero] at hcf
        generalize F 0 = t at *
        go_wp2_with fail
        refine (unhide HC _).mono ?_
        rintro e w1 ⟨rfl, z1⟩
        subst w1
        go_wp2
        exact ⟨⟨1, by omega, by go_num, unhide hA2, by trivial⟩, by simp [intOf]; omega⟩
      have hk0 : (0 : Int) < (k : Int) := by omega
      have hkn : ¬ ((k : Int) = 0) := by omega
      have hcp := h1.c (k - 1) (by omega)
      have eB := okB_s c (show 0 < k by omega)
      by_cases d : lsT (F (k - 1)) (F k) = true
      · have hA2 : Hid (okV F (k + 1) = true) := by show _ = _; rw [okV, hA, eB, d]; rfl
        clear h1 hA c eB
        unfold lsT at d
        generalize F k = t at *
        generalize F (k - 1) = t1 at *
        obtain ⟨m, rfl⟩ : ∃ m, k = m + 1 := ⟨k - 1, by omega⟩
        rw [Nat.add_sub_cancel] at hcp
        go_wp2_with fail
        refine (unhide HC _).mono ?_
        rintro e w1 ⟨rfl, z1⟩
        subst w1
        go_wp2
        exact ⟨⟨m + 1 + 1, by omega, by go_num, unhide hA2, by trivial⟩, by simp [intOf]; omega⟩
      · have d' := Bool.eq_false_iff.2 d
        have hE := hide (okV_no F hlt (eB.trans d'))
        clear h1 hA c eB d
        unfold lsT at d'
        generalize F k = t at *
        generalize F (k - 1) = t1 at *
        obtain ⟨m, rfl⟩ : ∃ m, k = m + 1 := ⟨k - 1, by omega⟩
        rw [Nat.add_sub_cancel] at hcp
        go_wp2_with fail
        refine (unhide HC _).mono ?_
        rintro e w1 ⟨rfl, z1⟩
        subst w1
        go_wp2
        go_ret
        exact ⟨by rw [unhide hE, Bool.and_false]; rfl, rfl⟩
    · obtain rfl : k = n := by omega
      have HA := hide hA
      clear hA
      go_wp2
      go_ret
      refine ⟨?_, rfl⟩
      rw [unhide HA, Bool.and_true, show decide ((k : Int) ≤ 12) = decide (k ≤ 12) from decide_eq_decide.2 (by omega)]
      rfl
end Go.Proofs.Ytbabipaipbjlbaa
