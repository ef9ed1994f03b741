/-
  Frames without ranges: held against each other, marked, held.
-/
import Derived.Test.YtpdjcgakjdchjaaNxp
namespace Go.Proofs.Ytpdjcgakjdchjaa.Rc
open Go.ChangeShapes Go.WideShapes Go.ChangeAt Go.RowKit Go.Deep
set_option linter.unusedVariables false
set_option maxRecDepth 100000

theorem eqRangeS0 (w : World) : Calls Try.prog 45 #[.slice none 0 0, .slice none 0 0] w fun e w' => e = .returned (.bool true) ∧ Below w.heap.size w w' := by
  go_enter Try.func45, Try.ntmps45
  go_wp2
  refine wp_loop_rounds 1 ?_
  rw [rounds_succ]
  go_wp2
  go_ret
  exact ⟨rfl, Below.refl _ _⟩
theorem markRangeS0 (k : Int) (w : World) : Calls Try.prog 46 #[.slice none 0 0, .int .i64 k] w fun e w' => e = .returned (.int .i64 k) ∧ Below w.heap.size w w' := by
  go_enter Try.func46, Try.ntmps46
  go_wp2
  refine wp_loop_rounds 1 ?_
  rw [rounds_succ]
  go_wp2
  go_ret
  exact ⟨rfl, Below.refl _ _⟩
theorem heldRangeS0 (k : Int) (w : World) : Calls Try.prog 47 #[.slice none 0 0, .int .i64 k] w fun e w' => e = .returned (.int .i64 k) ∧ Below w.heap.size w w' := by
  go_enter Try.func47, Try.ntmps47
  go_wp2
  refine wp_loop_rounds 1 ?_
  rw [rounds_succ]
  go_wp2
  go_ret
  exact ⟨rfl, Below.refl _ _⟩
set_option maxHeartbeats 1000000 in
theorem eqFrame0 (k b : Int) (fin : Bool) (s : ByteArray) (w : World) :
    Calls Try.prog 21 #[frV k b fin s, frV k b fin s] w fun e w' => e = .returned (.bool true) ∧ Below w.heap.size w w' := by
  have HB := hide eqRangeS0
  have al : Hid (∀ o o', Below w.heap.size w ((w.alloc o).alloc o')) := fun o o' => ((Below.refl _ _).alloc (Nat.le_refl _) _).alloc (by simp) _
  go_enter Try.func21, Try.ntmps21
  go_wp2_with fail
  refine (unhide HB _).mono ?_
  rintro e w2 ⟨rfl, b2⟩
  have B2 := hide ((unhide al _ _).trans (b2.mono (by simp; omega)))
  clear b2
  go_wp2
  go_ret
  exact ⟨rfl, unhide B2⟩
set_option maxHeartbeats 1000000 in
theorem markFrame0 (q : Int) (k b : Int) (fin : Bool) (s : ByteArray) (w : World) :
    Calls Try.prog 22 #[frV k b fin s, .int .i64 q] w fun e w' => e = .returned (.int .i64 q) ∧ Below w.heap.size w w' := by
  have HB := hide (markRangeS0 q)
  have al : Hid (∀ o, Below w.heap.size w (w.alloc o)) := fun o => (Below.refl _ _).alloc (Nat.le_refl _) _
  go_enter Try.func22, Try.ntmps22
  go_wp2_with fail
  refine (unhide HB _).mono ?_
  rintro e w2 ⟨rfl, b2⟩
  have B2 := hide ((unhide al _).trans (b2.mono (by simp)))
  clear b2
  go_wp2
  go_ret
  exact ⟨rfl, unhide B2⟩
set_option maxHeartbeats 1000000 in
theorem heldFrame0 (q : Int) (hq : 0 ≤ q) (k b : Int) (fin : Bool) (s : ByteArray) (w : World) :
    Calls Try.prog 23 #[frV k b fin s, .int .i64 q] w fun e w' => e = .returned (.int .i64 q) ∧ Below w.heap.size w w' := by
  have HB := hide (heldRangeS0 q)
  have al : Hid (∀ o, Below w.heap.size w (w.alloc o)) := fun o => (Below.refl _ _).alloc (Nat.le_refl _) _
  have h0 : ¬ q < 0 := by omega
  go_enter Try.func23, Try.ntmps23
  go_wp2_with fail
  refine (unhide HB _).mono ?_
  rintro e w2 ⟨rfl, b2⟩
  have B2 := hide ((unhide al _).trans (b2.mono (by simp)))
  clear b2
  go_wp2
  go_ret
  exact ⟨rfl, unhide B2⟩
end Go.Proofs.Ytpdjcgakjdchjaa.Rc
