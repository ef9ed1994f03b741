/-
  Contracts: the model's HalfBlock.
-/
import Derived.Test.YtooojkedphlknaaHfb
namespace Go.Proofs.Ytooojkedphlknaa
open Go.ChangeShapes Go.WideShapes Go.ChangeAt Go.RowKit
set_option linter.unusedVariables false
set_option maxRecDepth 100000

theorem inT (n lo hi : Int) (h0 : lo ≤ n) (h1 : n ≤ hi) (w : World) :
    Calls Try.prog 14 #[.int .i64 n, .int .i64 lo, .int .i64 hi] w fun e w' => e = .returned (.bool true) ∧ w' = w := by
  have h := inB n lo hi w
  rw [decide_eq_true h0, decide_eq_true h1] at h
  exact h
theorem inF (n lo hi : Int) (h0 : ¬ (lo ≤ n ∧ n ≤ hi)) (w : World) :
    Calls Try.prog 14 #[.int .i64 n, .int .i64 lo, .int .i64 hi] w fun e w' => e = .returned (.bool false) ∧ w' = w := by
  have h := inB n lo hi w
  rw [← Bool.decide_and, decide_eq_false h0] at h
  exact h
set_option maxHeartbeats 2000000 in
theorem specHB_ok (s : ByteArray) (n p : Int) (h : s.size ≤ 10 ∧ 5 ≤ n ∧ n ≤ 19 ∧ 1 ≤ p ∧ p ≤ 4) (w : World) :
    Calls Try.prog 12 #[.string s, .int .i64 n, .int .i64 p] w fun e w' => e = .returned (.tuple #[.string (hbW s n.toNat p.toNat), .bool true]) ∧ Below w.heap.size w w' := by
  obtain ⟨h0, h1, h2, h3, h4⟩ := h
  obtain ⟨m, rfl⟩ : ∃ m : Nat, n = (m : Int) := ⟨n.toNat, by omega⟩
  obtain ⟨q, rfl⟩ : ∃ q : Nat, p = (q : Int) := ⟨p.toNat, by omega⟩
  rw [Int.toNat_natCast, Int.toNat_natCast]
  have H0 := hide (inT m 5 19 h1 h2)
  have H1 := hide (inT q 1 4 h3 h4)
  have HH := hide (specHalf s m q h0 (by omega) (by omega))
  have d0 : (s.size : Int) ≤ 10 := by omega
  generalize hbW s m q = r at *
  go_enter Try.func12, Try.ntmps12
  go_wp2_with fail
  refine (unhide H0 _).mono ?_
  rintro e w1 ⟨rfl, e1⟩
  subst e1
  go_wp2_with fail
  refine (unhide H1 _).mono ?_
  rintro e w2 ⟨rfl, e2⟩
  subst e2
  go_wp2_with fail
  refine (unhide HH _).mono ?_
  rintro e w3 ⟨rfl, b3⟩
  have B3 := hide b3
  clear b3
  go_wp2
  go_ret2
  exact ⟨rfl, unhide B3⟩
set_option maxHeartbeats 2000000 in
theorem specHB_no (s : ByteArray) (n p : Int) (h : ¬ (s.size ≤ 10 ∧ 5 ≤ n ∧ n ≤ 19 ∧ 1 ≤ p ∧ p ≤ 4)) (hl : s.size ≤ 1048576) (kn : (Lit.int .i64 n).wf = true) (kp : (Lit.int .i64 p).wf = true) (w : World) :
    Calls Try.prog 12 #[.string s, .int .i64 n, .int .i64 p] w fun e w' => e = .returned (.tuple #[.string ⟨#[]⟩, .bool false]) ∧ Below w.heap.size w w' := by
  clear kn kp
  by_cases c0 : (s.size : Int) ≤ 10
  case neg =>
    have d0 : (10 : Int) < s.size := by omega
    clear h c0
    go_enter Try.func12, Try.ntmps12
    go_wp2
    go_ret2
    exact ⟨rfl, Below.refl _ _⟩
  by_cases c1 : 5 ≤ n ∧ n ≤ 19
  case neg =>
    have H0 := hide (inF n 5 19 c1)
    clear h c1
    go_enter Try.func12, Try.ntmps12
    go_wp2_with fail
    refine (unhide H0 _).mono ?_
    rintro e w1 ⟨rfl, e1⟩
    subst e1
    go_wp2
    go_ret2
    exact ⟨rfl, Below.refl _ _⟩
  have H0 := hide (inT n 5 19 c1.1 c1.2)
  have H1 := hide (inF p 1 4 (fun c => h ⟨by omega, c1.1, c1.2, c.1, c.2⟩))
  clear h c1
  go_enter Try.func12, Try.ntmps12
  go_wp2_with fail
  refine (unhide H0 _).mono ?_
  rintro e w1 ⟨rfl, e1⟩
  subst e1
  go_wp2_with fail
  refine (unhide H1 _).mono ?_
  rintro e w2 ⟨rfl, e2⟩
  subst e2
  go_wp2
  go_ret2
  exact ⟨rfl, Below.refl _ _⟩
end Go.Proofs.Ytooojkedphlknaa
