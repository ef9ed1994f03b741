/-
  Two frames without ranges that are the same are the same to the laws.
-/
import Derived.Test.YtagnkelpdgpigaaNxp
namespace Go.Proofs.Ytagnkelpdgpigaa.Rc
open Go.ChangeShapes Go.WideShapes Go.ChangeAt Go.RowKit Go.Deep
set_option linter.unusedVariables false
set_option maxRecDepth 100000

theorem sameR0 (w : World) : Calls Try.prog 16 #[.slice none 0 0, .slice none 0 0] w fun e w' => e = .returned (.bool true) ∧ Below w.heap.size w w' := by
  go_enter Try.func16, Try.ntmps16
  go_wp2
  refine wp_loop_rounds 1 ?_
  rw [rounds_succ]
  go_wp2
  go_ret
  exact ⟨rfl, Below.refl _ _⟩
set_option maxHeartbeats 1000000 in
theorem sameF0 (k b : Int) (fin : Bool) (s : ByteArray) (w : World) :
    Calls Try.prog 7 #[frV k b fin s, frV k b fin s] w fun e w' => e = .returned (.bool true) ∧ Below w.heap.size w w' := by
  have HB := hide sameR0
  have al : Hid (∀ o o', Below w.heap.size w ((w.alloc o).alloc o')) := fun o o' => ((Below.refl _ _).alloc (Nat.le_refl _) _).alloc (by simp) _
  go_enter Try.func7, Try.ntmps7
  go_wp2_with fail
  refine (unhide HB _).mono ?_
  rintro e w2 ⟨rfl, b2⟩
  have B2 := hide ((unhide al _ _).trans (b2.mono (by simp; omega)))
  clear b2
  go_wp2
  go_ret
  exact ⟨rfl, unhide B2⟩
end Go.Proofs.Ytagnkelpdgpigaa.Rc
