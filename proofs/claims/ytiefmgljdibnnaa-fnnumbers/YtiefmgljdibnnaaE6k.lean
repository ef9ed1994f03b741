/-
  Contracts: kinds of numbers that are told shortly, of the program.
-/
import Derived.Test.YtiefmgljdibnnaaL6f
namespace Go.Proofs.Ytiefmgljdibnnaa
open Go.ChangeShapes Go.WideShapes Go.ChangeAt Go.RowKit
set_option linter.unusedVariables false
set_option maxRecDepth 100000

theorem four (k : Nat) (h0 : 1 ≤ k) (h4 : k ≤ 4) : k = 1 ∨ k = 2 ∨ k = 3 ∨ k = 4 := by omega
theorem sizeOf_k (k : Nat) (h0 : 1 ≤ k) (h4 : k ≤ 4) (w : World) :
    Calls Try.prog 19 #[.int .i32 ((48 + k : Nat) : Int)] w fun e w' => e = .returned (.int .i64 k) ∧ w' = w := by
  rcases four k h0 h4 with rfl | rfl | rfl | rfl
  all_goals
    go_enter Try.func19, Try.ntmps19
    go_wp2
    go_ret
    exact ⟨rfl, rfl⟩
theorem widthOf_k (k : Nat) (h0 : 1 ≤ k) (h4 : k ≤ 4) (w : World) :
    Calls Try.prog 23 #[.int .i32 ((48 + k : Nat) : Int)] w fun e w' => e = .returned (.int .i64 ((256 ^ k : Nat) : Int)) ∧ w' = w := by
  have HS := hide (sizeOf_k k h0 h4)
  rcases four k h0 h4 with rfl | rfl | rfl | rfl
  all_goals
    go_enter Try.func23, Try.ntmps23
    go_wp2_with (go_at_call 19; refine (unhide HS _).mono ?_; rintro e w' ⟨rfl, rfl⟩)
    go_ret
    exact ⟨rfl, rfl⟩
/-- the kinds' digits -/
def dig : ByteArray := ⟨#[49, 50, 51, 52]⟩
theorem nx (k : Nat) (h0 : 1 ≤ k) (h4 : k ≤ 4) (w : World) (ty : TypeId) : (Instr.next (.pointer (some ⟨w.heap.size, 0, none⟩)) true ty).run Try.prog (w.iter dig (k - 1)) = .ok (.tuple #[.bool true, .int .i64 ((k - 1 : Nat) : Int), .int .i32 ((48 + k : Nat) : Int)]) (w.iter dig k) := by
  rcases four k h0 h4 with rfl | rfl | rfl | rfl
  · exact run_next_ascii w dig 0 ty (by decide) (by decide)
  · exact run_next_ascii w dig 1 ty (by decide) (by decide)
  · exact run_next_ascii w dig 2 ty (by decide) (by decide)
  · exact run_next_ascii w dig 3 ty (by decide) (by decide)
theorem nx_end (w : World) (ty : TypeId) : (Instr.next (.pointer (some ⟨w.heap.size, 0, none⟩)) true ty).run Try.prog (w.iter dig 4) = .ok (.tuple #[.bool false]) (w.iter dig 4) := run_next_end w dig 4 ty (by decide)
theorem iter_below (w : World) (k : Nat) : Below w.heap.size w (w.iter dig k) := (Below.refl _ _).alloc (Nat.le_refl _) _
set_option maxHeartbeats 1000000 in
theorem kind_of (n : Int) (w : World) :
    Calls Try.prog 22 #[.int .i64 n] w fun e w' => e = .returned (if 1 ≤ n ∧ n ≤ 4 then .tuple #[.int .i32 (48 + n), .bool true] else .tuple #[.int .i32 0, .bool false]) ∧ Below w.heap.size w w' := by
  have H1 : Hid (∀ w : World, Calls Try.prog 19 #[.int .i32 49] w fun e w' => e = .returned (.int .i64 1) ∧ w' = w) := sizeOf_k 1 (by omega) (by omega)
  have H2 : Hid (∀ w : World, Calls Try.prog 19 #[.int .i32 50] w fun e w' => e = .returned (.int .i64 2) ∧ w' = w) := sizeOf_k 2 (by omega) (by omega)
  have H3 : Hid (∀ w : World, Calls Try.prog 19 #[.int .i32 51] w fun e w' => e = .returned (.int .i64 3) ∧ w' = w) := sizeOf_k 3 (by omega) (by omega)
  have H4 : Hid (∀ w : World, Calls Try.prog 19 #[.int .i32 52] w fun e w' => e = .returned (.int .i64 4) ∧ w' = w) := sizeOf_k 4 (by omega) (by omega)
  have n1 : ∀ ty : TypeId, (Instr.next (.pointer (some ⟨w.heap.size, 0, none⟩)) true ty).run Try.prog (w.iter dig 0) = .ok (.tuple #[.bool true, .int .i64 0, .int .i32 49]) (w.iter dig 1) := nx 1 (by omega) (by omega) w
  have n2 : ∀ ty : TypeId, (Instr.next (.pointer (some ⟨w.heap.size, 0, none⟩)) true ty).run Try.prog (w.iter dig 1) = .ok (.tuple #[.bool true, .int .i64 1, .int .i32 50]) (w.iter dig 2) := nx 2 (by omega) (by omega) w
  have n3 : ∀ ty : TypeId, (Instr.next (.pointer (some ⟨w.heap.size, 0, none⟩)) true ty).run Try.prog (w.iter dig 2) = .ok (.tuple #[.bool true, .int .i64 2, .int .i32 51]) (w.iter dig 3) := nx 3 (by omega) (by omega) w
  have n4 : ∀ ty : TypeId, (Instr.next (.pointer (some ⟨w.heap.size, 0, none⟩)) true ty).run Try.prog (w.iter dig 3) = .ok (.tuple #[.bool true, .int .i64 3, .int .i32 52]) (w.iter dig 4) := nx 4 (by omega) (by omega) w
  have n5 := nx_end w
  have B1 := hide (iter_below w 1)
  have B2 := hide (iter_below w 2)
  have B3 := hide (iter_below w 3)
  have B4 := hide (iter_below w 4)
  have hc : n = 1 ∨ n = 2 ∨ n = 3 ∨ n = 4 ∨ (n ≠ 1 ∧ n ≠ 2 ∧ n ≠ 3 ∧ n ≠ 4) := by omega
  rcases hc with rfl | rfl | rfl | rfl | ⟨h1, h2, h3, h4⟩
  · rw [if_pos (by omega)]
    go_enter Try.func22, Try.ntmps22
    go_wp2
    change Code.wp _ _ _ _ (w.iter dig 0)
    refine wp_loop_rounds 2 ?_
    rw [rounds_succ]
    go_wp2_with (go_at_call 19; with_reducible refine (unhide H1 _).mono ?_; rintro e w' ⟨rfl, rfl⟩)
    go_ret2
    exact ⟨rfl, unhide B1⟩
  · rw [if_pos (by omega)]
    go_enter Try.func22, Try.ntmps22
    go_wp2
    change Code.wp _ _ _ _ (w.iter dig 0)
    refine wp_loop_rounds 3 ?_
    rw [rounds_succ]
    go_wp2_with (go_at_call 19; with_reducible refine (unhide H1 _).mono ?_; rintro e w' ⟨rfl, rfl⟩)
    rw [rounds_succ]
    go_wp2_with (go_at_call 19; with_reducible refine (unhide H2 _).mono ?_; rintro e w' ⟨rfl, rfl⟩)
    go_ret2
    exact ⟨rfl, unhide B2⟩
  · rw [if_pos (by omega)]
    go_enter Try.func22, Try.ntmps22
    go_wp2
    change Code.wp _ _ _ _ (w.iter dig 0)
    refine wp_loop_rounds 4 ?_
    rw [rounds_succ]
    go_wp2_with (go_at_call 19; with_reducible refine (unhide H1 _).mono ?_; rintro e w' ⟨rfl, rfl⟩)
    rw [rounds_succ]
    go_wp2_with (go_at_call 19; with_reducible refine (unhide H2 _).mono ?_; rintro e w' ⟨rfl, rfl⟩)
    rw [rounds_succ]
    go_wp2_with (go_at_call 19; with_reducible refine (unhide H3 _).mono ?_; rintro e w' ⟨rfl, rfl⟩)
    go_ret2
    exact ⟨rfl, unhide B3⟩
  · rw [if_pos (by omega)]
    go_enter Try.func22, Try.ntmps22
    go_wp2
    change Code.wp _ _ _ _ (w.iter dig 0)
    refine wp_loop_rounds 5 ?_
    rw [rounds_succ]
    go_wp2_with (go_at_call 19; with_reducible refine (unhide H1 _).mono ?_; rintro e w' ⟨rfl, rfl⟩)
    rw [rounds_succ]
    go_wp2_with (go_at_call 19; with_reducible refine (unhide H2 _).mono ?_; rintro e w' ⟨rfl, rfl⟩)
    rw [rounds_succ]
    go_wp2_with (go_at_call 19; with_reducible refine (unhide H3 _).mono ?_; rintro e w' ⟨rfl, rfl⟩)
    rw [rounds_succ]
    go_wp2_with (go_at_call 19; with_reducible refine (unhide H4 _).mono ?_; rintro e w' ⟨rfl, rfl⟩)
    go_ret2
    exact ⟨rfl, unhide B4⟩
  · rw [if_neg (by omega)]
    have g1 : ((1 : Int) == n) = false := by simp; omega
    have g2 : ((2 : Int) == n) = false := by simp; omega
    have g3 : ((3 : Int) == n) = false := by simp; omega
    have g4 : ((4 : Int) == n) = false := by simp; omega
    go_enter Try.func22, Try.ntmps22
    go_wp2
    change Code.wp _ _ _ _ (w.iter dig 0)
    refine wp_loop_rounds 5 ?_
    rw [rounds_succ]
    go_wp2_with (go_at_call 19; with_reducible refine (unhide H1 _).mono ?_; rintro e w' ⟨rfl, rfl⟩)
    rw [rounds_succ]
    go_wp2_with (go_at_call 19; with_reducible refine (unhide H2 _).mono ?_; rintro e w' ⟨rfl, rfl⟩)
    rw [rounds_succ]
    go_wp2_with (go_at_call 19; with_reducible refine (unhide H3 _).mono ?_; rintro e w' ⟨rfl, rfl⟩)
    rw [rounds_succ]
    go_wp2_with (go_at_call 19; with_reducible refine (unhide H4 _).mono ?_; rintro e w' ⟨rfl, rfl⟩)
    rw [rounds_succ]
    go_wp2
    go_ret2
    exact ⟨rfl, unhide B4⟩
/-- how many bytes tell a number over such a distance, 0 where four are not enough -/
def szF (d : Int) : Nat := if d < 128 then 1 else if d < 32768 then 2 else if d < 8388608 then 3 else if d < 2147483648 then 4 else 0
theorem szF_cases (d : Int) : (d < 128 ∧ szF d = 1) ∨ (128 ≤ d ∧ d < 32768 ∧ szF d = 2) ∨ (32768 ≤ d ∧ d < 8388608 ∧ szF d = 3) ∨ (8388608 ≤ d ∧ d < 2147483648 ∧ szF d = 4) ∨ (2147483648 ≤ d ∧ szF d = 0) := by
  unfold szF
  by_cases h1 : d < 128
  · exact Or.inl ⟨h1, if_pos h1⟩
  · by_cases h2 : d < 32768
    · exact Or.inr (Or.inl ⟨by omega, h2, by rw [if_neg h1, if_pos h2]⟩)
    · by_cases h3 : d < 8388608
      · exact Or.inr (Or.inr (Or.inl ⟨by omega, h3, by rw [if_neg h1, if_neg h2, if_pos h3]⟩))
      · by_cases h4 : d < 2147483648
        · exact Or.inr (Or.inr (Or.inr (Or.inl ⟨by omega, h4, by rw [if_neg h1, if_neg h2, if_neg h3, if_pos h4]⟩)))
        · exact Or.inr (Or.inr (Or.inr (Or.inr ⟨by omega, by rw [if_neg h1, if_neg h2, if_neg h3, if_neg h4]⟩)))
set_option maxHeartbeats 1000000 in
theorem kind_over (n : Int) (w : World) :
    Calls Try.prog 17 #[.int .i64 n] w fun e w' => e = .returned (if szF n = 0 then .tuple #[.int .i32 0, .bool false] else .tuple #[.int .i32 (48 + (szF n : Nat)), .bool true]) ∧ Below w.heap.size w w' := by
  have H1 : Hid (∀ w : World, Calls Try.prog 23 #[.int .i32 49] w fun e w' => e = .returned (.int .i64 256) ∧ w' = w) := widthOf_k 1 (by omega) (by omega)
  have H2 : Hid (∀ w : World, Calls Try.prog 23 #[.int .i32 50] w fun e w' => e = .returned (.int .i64 65536) ∧ w' = w) := widthOf_k 2 (by omega) (by omega)
  have H3 : Hid (∀ w : World, Calls Try.prog 23 #[.int .i32 51] w fun e w' => e = .returned (.int .i64 16777216) ∧ w' = w) := widthOf_k 3 (by omega) (by omega)
  have H4 : Hid (∀ w : World, Calls Try.prog 23 #[.int .i32 52] w fun e w' => e = .returned (.int .i64 4294967296) ∧ w' = w) := widthOf_k 4 (by omega) (by omega)
  have n1 : ∀ ty : TypeId, (Instr.next (.pointer (some ⟨w.heap.size, 0, none⟩)) true ty).run Try.prog (w.iter dig 0) = .ok (.tuple #[.bool true, .int .i64 0, .int .i32 49]) (w.iter dig 1) := nx 1 (by omega) (by omega) w
  have n2 : ∀ ty : TypeId, (Instr.next (.pointer (some ⟨w.heap.size, 0, none⟩)) true ty).run Try.prog (w.iter dig 1) = .ok (.tuple #[.bool true, .int .i64 1, .int .i32 50]) (w.iter dig 2) := nx 2 (by omega) (by omega) w
  have n3 : ∀ ty : TypeId, (Instr.next (.pointer (some ⟨w.heap.size, 0, none⟩)) true ty).run Try.prog (w.iter dig 2) = .ok (.tuple #[.bool true, .int .i64 2, .int .i32 51]) (w.iter dig 3) := nx 3 (by omega) (by omega) w
  have n4 : ∀ ty : TypeId, (Instr.next (.pointer (some ⟨w.heap.size, 0, none⟩)) true ty).run Try.prog (w.iter dig 3) = .ok (.tuple #[.bool true, .int .i64 3, .int .i32 52]) (w.iter dig 4) := nx 4 (by omega) (by omega) w
  have n5 := nx_end w
  have B1 := hide (iter_below w 1)
  have B2 := hide (iter_below w 2)
  have B3 := hide (iter_below w 3)
  have B4 := hide (iter_below w 4)
  rcases szF_cases n with ⟨h2, e⟩ | ⟨h1, h2, e⟩ | ⟨h1, h2, e⟩ | ⟨h1, h2, e⟩ | ⟨h1, e⟩
  · rw [e, if_neg (by omega)]
    clear e
    go_enter Try.func17, Try.ntmps17
    go_wp2
    change Code.wp _ _ _ _ (w.iter dig 0)
    refine wp_loop_rounds 2 ?_
    rw [rounds_succ]
    go_wp2_with (go_at_call 23; with_reducible refine (unhide H1 _).mono ?_; rintro e w' ⟨rfl, rfl⟩)
    go_ret2
    exact ⟨rfl, unhide B1⟩
  · rw [e, if_neg (by omega)]
    clear e
    go_enter Try.func17, Try.ntmps17
    go_wp2
    change Code.wp _ _ _ _ (w.iter dig 0)
    refine wp_loop_rounds 3 ?_
    rw [rounds_succ]
    go_wp2_with (go_at_call 23; with_reducible refine (unhide H1 _).mono ?_; rintro e w' ⟨rfl, rfl⟩)
    rw [rounds_succ]
    go_wp2_with (go_at_call 23; with_reducible refine (unhide H2 _).mono ?_; rintro e w' ⟨rfl, rfl⟩)
    go_ret2
    exact ⟨rfl, unhide B2⟩
  · rw [e, if_neg (by omega)]
    clear e
    go_enter Try.func17, Try.ntmps17
    go_wp2
    change Code.wp _ _ _ _ (w.iter dig 0)
    refine wp_loop_rounds 4 ?_
    rw [rounds_succ]
    go_wp2_with (go_at_call 23; with_reducible refine (unhide H1 _).mono ?_; rintro e w' ⟨rfl, rfl⟩)
    rw [rounds_succ]
    go_wp2_with (go_at_call 23; with_reducible refine (unhide H2 _).mono ?_; rintro e w' ⟨rfl, rfl⟩)
    rw [rounds_succ]
    go_wp2_with (go_at_call 23; with_reducible refine (unhide H3 _).mono ?_; rintro e w' ⟨rfl, rfl⟩)
    go_ret2
    exact ⟨rfl, unhide B3⟩
  · rw [e, if_neg (by omega)]
    clear e
    go_enter Try.func17, Try.ntmps17
    go_wp2
    change Code.wp _ _ _ _ (w.iter dig 0)
    refine wp_loop_rounds 5 ?_
    rw [rounds_succ]
    go_wp2_with (go_at_call 23; with_reducible refine (unhide H1 _).mono ?_; rintro e w' ⟨rfl, rfl⟩)
    rw [rounds_succ]
    go_wp2_with (go_at_call 23; with_reducible refine (unhide H2 _).mono ?_; rintro e w' ⟨rfl, rfl⟩)
    rw [rounds_succ]
    go_wp2_with (go_at_call 23; with_reducible refine (unhide H3 _).mono ?_; rintro e w' ⟨rfl, rfl⟩)
    rw [rounds_succ]
    go_wp2_with (go_at_call 23; with_reducible refine (unhide H4 _).mono ?_; rintro e w' ⟨rfl, rfl⟩)
    go_ret2
    exact ⟨rfl, unhide B4⟩
  · rw [e, if_pos rfl]
    clear e
    go_enter Try.func17, Try.ntmps17
    go_wp2
    change Code.wp _ _ _ _ (w.iter dig 0)
    refine wp_loop_rounds 5 ?_
    rw [rounds_succ]
    go_wp2_with (go_at_call 23; with_reducible refine (unhide H1 _).mono ?_; rintro e w' ⟨rfl, rfl⟩)
    rw [rounds_succ]
    go_wp2_with (go_at_call 23; with_reducible refine (unhide H2 _).mono ?_; rintro e w' ⟨rfl, rfl⟩)
    rw [rounds_succ]
    go_wp2_with (go_at_call 23; with_reducible refine (unhide H3 _).mono ?_; rintro e w' ⟨rfl, rfl⟩)
    rw [rounds_succ]
    go_wp2_with (go_at_call 23; with_reducible refine (unhide H4 _).mono ?_; rintro e w' ⟨rfl, rfl⟩)
    rw [rounds_succ]
    go_wp2
    go_ret2
    exact ⟨rfl, unhide B4⟩
end Go.Proofs.Ytiefmgljdibnnaa
