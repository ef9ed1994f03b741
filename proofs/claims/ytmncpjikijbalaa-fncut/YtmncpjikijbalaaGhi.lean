/-
  Contracts: the program's look at a header.
-/
import Derived.Test.YtmncpjikijbalaaGhs
namespace Go.Proofs.Ytmncpjikijbalaa
open Go.ChangeShapes Go.WideShapes Go.ChangeAt Go.RowKit
set_option linter.unusedVariables false

theorem formOf_0 (w : World) :
    Calls Try.prog 32 #[.int .i64 0] w fun e w' => e = .returned (.tuple #[.iface 75 (.agg #[]), .bool true]) ∧ w' = w := by
  go_enter Try.func32, Try.ntmps32
  go_wp2
  go_ret2
  exact ⟨rfl, rfl⟩
theorem formOf_1 (w : World) :
    Calls Try.prog 32 #[.int .i64 1] w fun e w' => e = .returned (.tuple #[.iface 77 (.agg #[.int .i64 1]), .bool true]) ∧ w' = w := by
  go_enter Try.func32, Try.ntmps32
  go_wp2
  go_ret2
  exact ⟨rfl, rfl⟩
theorem formOf_2 (w : World) :
    Calls Try.prog 32 #[.int .i64 2] w fun e w' => e = .returned (.tuple #[.iface 77 (.agg #[.int .i64 2]), .bool true]) ∧ w' = w := by
  go_enter Try.func32, Try.ntmps32
  go_wp2
  go_ret2
  exact ⟨rfl, rfl⟩
theorem formOf_3 (w : World) :
    Calls Try.prog 32 #[.int .i64 3] w fun e w' => e = .returned (.tuple #[.iface 78 (.agg #[]), .bool true]) ∧ w' = w := by
  go_enter Try.func32, Try.ntmps32
  go_wp2
  go_ret2
  exact ⟨rfl, rfl⟩
theorem formOf_4 (w : World) :
    Calls Try.prog 32 #[.int .i64 4] w fun e w' => e = .returned (.tuple #[.iface 79 (.agg #[]), .bool true]) ∧ w' = w := by
  go_enter Try.func32, Try.ntmps32
  go_wp2
  go_ret2
  exact ⟨rfl, rfl⟩
theorem formOf_5 (w : World) :
    Calls Try.prog 32 #[.int .i64 5] w fun e w' => e = .returned (.tuple #[.iface 80 (.agg #[]), .bool true]) ∧ w' = w := by
  go_enter Try.func32, Try.ntmps32
  go_wp2
  go_ret2
  exact ⟨rfl, rfl⟩
theorem formOf_no (w : World) (k : Int) (e0 : (k == 0) = false) (e1 : (k == 1) = false) (e2 : (k == 2) = false) (e3 : (k == 3) = false) (e4 : (k == 4) = false) (e5 : (k == 5) = false) :
    Calls Try.prog 32 #[.int .i64 k] w fun e w' => e = .returned (.tuple #[.nilIface, .bool false]) ∧ w' = w := by
  go_enter Try.func32, Try.ntmps32
  go_wp2
  go_ret2
  exact ⟨rfl, rfl⟩
theorem goodVersion_yes (v : Int) (w : World) (h : okW 1 v = true) :
    Calls Try.prog 47 #[.int .i64 v] w fun e w' => e = .returned (.bool true) ∧ w' = w := by
  simp [okW] at h
  go_enter Try.func47, Try.ntmps47
  go_wp2
  go_ret
  exact ⟨rfl, rfl⟩
theorem goodVersion_no (v : Int) (w : World) (h : okW 1 v = false) :
    Calls Try.prog 47 #[.int .i64 v] w fun e w' => e = .returned (.bool false) ∧ w' = w := by
  have h' : ¬ ((1 : Int) ≤ v ∧ v ≤ 4294967295) := of_decide_eq_false h
  clear h
  by_cases h1 : 1 ≤ v
  · have h2 : ¬ v ≤ 4294967295 := fun q => h' ⟨h1, q⟩
    clear h'
    go_enter Try.func47, Try.ntmps47
    go_wp2
    go_ret
    exact ⟨rfl, rfl⟩
  · clear h'
    go_enter Try.func47, Try.ntmps47
    go_wp2
    go_ret
    exact ⟨rfl, rfl⟩
set_option maxHeartbeats 4000000 in
theorem goodVersions_any (lo : Int) (ra : Option Addr) (n cap : Nat) (V : Nat → Int) (w : World) (h : Ia w ra n cap V) (hn : n ≤ 1048576) (hlo : lo = 0 ∨ lo = 1) :
    Calls Try.prog 26 #[.slice ra n cap, .int .i64 lo] w fun e w' => e = .returned (.bool (gv lo n V)) ∧ w' = w := by
  by_cases n1 : 1 ≤ n
  case neg =>
    have HF : Hid (gv lo n V = false) := decide_eq_false (fun q => n1 q.1)
    go_enter Try.func26, Try.ntmps26
    go_wp2
    go_ret
    exact ⟨by rw [unhide HF]; rfl, rfl⟩
  by_cases n2 : n ≤ 20
  case neg =>
    have HF : Hid (gv lo n V = false) := decide_eq_false (fun q => n2 q.2.1)
    go_enter Try.func26, Try.ntmps26
    go_wp2
    go_ret
    exact ⟨by rw [unhide HF]; rfl, rfl⟩
  rcases h with h | ⟨g, off, rfl, h⟩
  · omega
  have HR := hide h
  clear h
  go_enter Try.func26, Try.ntmps26
  go_wp2
  go_loopw [17] (fun i wr => ∃ k : Nat, k ≤ n ∧ i = .int .i64 k ∧ (∀ j, j < k → okW lo (V j) = true) ∧ wr = w) (fun i _ => n - (intOf i).toNat)
  case atStart => exact ⟨0, Nat.zero_le _, rfl, fun j hj => by omega, rfl⟩
  case round =>
    obtain ⟨k, hk, rfl, hok, rfl⟩ := hrel
    by_cases hlt : k < n
    · have hcf := (unhide HR).cv k hlt
      have hbv := (unhide HR).bv k hlt
      have HO := hide hok
      clear hok
      cases hw : okW lo (V k) with
      | true =>
        have hw' : lo ≤ V k ∧ V k ≤ 4294967295 := of_decide_eq_true hw
        have HW := hide hw
        obtain ⟨h1, h2⟩ := hw'
        clear hw
        go_wp2
        exact ⟨⟨k + 1, by omega, by go_num, upto_succW (unhide HO) (unhide HW), by first | trivial | rfl⟩, by simp [intOf]; omega⟩
      | false =>
        have hw' : ¬ (lo ≤ V k ∧ V k ≤ 4294967295) := of_decide_eq_false hw
        have HF : Hid (gv lo n V = false) := decide_eq_false (fun q => by have := allW_no hlt hw; rw [this] at q; exact absurd q.2.2 (by decide))
        clear hw
        by_cases h1 : lo ≤ V k
        · have h2 : ¬ V k ≤ 4294967295 := fun q => hw' ⟨h1, q⟩
          clear hw'
          go_wp2
          go_ret
          exact ⟨by rw [unhide HF]; rfl, rfl⟩
        · clear hw'
          go_wp2
          go_ret
          exact ⟨by rw [unhide HF]; rfl, rfl⟩
    · obtain rfl : k = n := by omega
      have HF : Hid (gv lo k V = true) := decide_eq_true ⟨n1, n2, allW_yes hok⟩
      clear hok
      go_wp2
      go_ret
      exact ⟨by rw [unhide HF]; rfl, rfl⟩
end Go.Proofs.Ytmncpjikijbalaa
