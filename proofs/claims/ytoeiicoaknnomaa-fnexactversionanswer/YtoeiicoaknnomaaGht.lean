/-
  Contract: the model's look at a header, case by case.
-/
import Derived.Test.YtoeiicoaknnomaaGhs
namespace Go.Proofs.Ytoeiicoaknnomaa
open Go.ChangeShapes Go.WideShapes Go.ChangeAt Go.RowKit
set_option linter.unusedVariables false

set_option maxHeartbeats 4000000 in
theorem sg_token (f bi ve : Int) (d s t p : ByteArray) (g off n cap : Nat) (w : World) (c1 : d.size ≤ 20) (c2 : s.size ≤ 20) (c3 : 0 ≤ bi) (c3' : bi ≤ 15) (c4 : t.size ≤ 200) (c5 : p.size ≤ 1200)
    (hf : (f != 0) = true) (ht : ¬ t.toList = []) :
    Calls Try.prog 15 #[hv f bi ve d s t p (some ⟨g, off, none⟩) n cap] w fun e w' => e = .returned (.bool false) ∧ Below w.heap.size w w' := by
  go_enter Try.func15, Try.ntmps15
  go_wp2_with ((go_at_call 16; refine (in_yes _ _ _ _ (by omega) (by omega)).mono ?_; rintro e w' ⟨rfl, rfl⟩))
  go_ret
  exact ⟨rfl, (Below.refl _ _).alloc (Nat.le_refl _) _⟩

set_option maxHeartbeats 4000000 in
theorem sg_versT (f bi ve : Int) (d s t p : ByteArray) (g off n cap : Nat) (w : World) (c1 : d.size ≤ 20) (c2 : s.size ≤ 20) (c3 : 0 ≤ bi) (c3' : bi ≤ 15) (c4 : t.size ≤ 200) (c5 : p.size ≤ 1200)
    (hf0 : (f != 0) = true) (ht : t.toList = []) (hf : (f != 4) = true) (hn : 0 < n) :
    Calls Try.prog 15 #[hv f bi ve d s t p (some ⟨g, off, none⟩) n cap] w fun e w' => e = .returned (.bool false) ∧ Below w.heap.size w w' := by
  go_enter Try.func15, Try.ntmps15
  go_wp2_with ((go_at_call 16; refine (in_yes _ _ _ _ (by omega) (by omega)).mono ?_; rintro e w' ⟨rfl, rfl⟩))
  go_ret
  exact ⟨rfl, (Below.refl _ _).alloc (Nat.le_refl _) _⟩

set_option maxHeartbeats 4000000 in
theorem sg_vers0 (bi ve : Int) (d s t p : ByteArray) (g off n cap : Nat) (w : World) (c1 : d.size ≤ 20) (c2 : s.size ≤ 20) (c3 : 0 ≤ bi) (c3' : bi ≤ 15) (c4 : t.size ≤ 200) (c5 : p.size ≤ 1200)
    (hn : 0 < n) :
    Calls Try.prog 15 #[hv 0 bi ve d s t p (some ⟨g, off, none⟩) n cap] w fun e w' => e = .returned (.bool false) ∧ Below w.heap.size w w' := by
  go_enter Try.func15, Try.ntmps15
  go_wp2_with ((go_at_call 16; refine (in_yes _ _ _ _ (by omega) (by omega)).mono ?_; rintro e w' ⟨rfl, rfl⟩))
  go_ret
  exact ⟨rfl, (Below.refl _ _).alloc (Nat.le_refl _) _⟩

end Go.Proofs.Ytoeiicoaknnomaa
