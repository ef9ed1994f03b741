/-
  Contracts: HeaderBytes as the program makes it, form by form.
-/
import Derived.Test.YtcmdnmmipbildaaDoorApx
import Derived.Test.YtcmdnmmipbildaaDoorL2c
import Derived.Test.YtcmdnmmipbildaaDoorGhw
import Derived.Test.YtcmdnmmipbildaaDoorGhx
import Derived.Laws.OwnMore
namespace Go.Proofs.YtcmdnmmipbildaaDoor
open Go.ChangeShapes Go.WideShapes Go.ChangeAt Go.RowKit
set_option linter.unusedVariables false

theorem tz_lt {W : World} (h : Tz W) : 1 < W.heap.size := World.block_lt_of_cell? W _ h.c0
theorem mark_0 (w : World) : Calls Tryd.prog 50 #[.agg #[]] w fun e w' => e = .returned (.int .i64 192) ∧ Below w.heap.size w w' := by
  go_enter Tryd.func50, Tryd.ntmps50
  go_wp2
  go_ret
  exact ⟨rfl, (Below.refl _ _).alloc (Nat.le_refl _) _⟩
theorem mark_1 (w : World) : Calls Tryd.prog 51 #[.agg #[.int .i64 1]] w fun e w' => e = .returned (.int .i64 208) ∧ Below w.heap.size w w' := by
  have e0 : bits .or .i64 192 (IntKind.i64.wrap 16) = 208 := by decide +kernel
  have e1 : bits .or .i64 192 16 = 208 := by decide +kernel
  go_enter Tryd.func51, Tryd.ntmps51
  go_wp2
  go_ret
  exact ⟨rfl, (Below.refl _ _).alloc (Nat.le_refl _) _⟩
theorem mark_2 (w : World) : Calls Tryd.prog 51 #[.agg #[.int .i64 2]] w fun e w' => e = .returned (.int .i64 224) ∧ Below w.heap.size w w' := by
  have e0 : bits .or .i64 192 (IntKind.i64.wrap 32) = 224 := by decide +kernel
  have e1 : bits .or .i64 192 32 = 224 := by decide +kernel
  go_enter Tryd.func51, Tryd.ntmps51
  go_wp2
  go_ret
  exact ⟨rfl, (Below.refl _ _).alloc (Nat.le_refl _) _⟩
theorem mark_3 (w : World) : Calls Tryd.prog 52 #[.agg #[]] w fun e w' => e = .returned (.int .i64 240) ∧ Below w.heap.size w w' := by
  go_enter Tryd.func52, Tryd.ntmps52
  go_wp2
  go_ret
  exact ⟨rfl, (Below.refl _ _).alloc (Nat.le_refl _) _⟩
theorem mark_4 (w : World) : Calls Tryd.prog 53 #[.agg #[]] w fun e w' => e = .returned (.int .i64 192) ∧ Below w.heap.size w w' := by
  go_enter Tryd.func53, Tryd.ntmps53
  go_wp2
  go_ret
  exact ⟨rfl, (Below.refl _ _).alloc (Nat.le_refl _) _⟩
theorem mark_5 (w : World) : Calls Tryd.prog 54 #[.agg #[]] w fun e w' => e = .returned (.int .i64 64) ∧ Below w.heap.size w w' := by
  go_enter Tryd.func54, Tryd.ntmps54
  go_wp2
  go_ret
  exact ⟨rfl, (Below.refl _ _).alloc (Nat.le_refl _) _⟩
theorem meth_0 (w : World) : (method 188 52 (.agg #[]) "loop.example/g00206/impl.mark").run Tryd.prog w = .ok (50, .agg #[]) w := by kernel_rfl
theorem meth_1 (w : World) : (method 188 54 (.agg #[.int .i64 1]) "loop.example/g00206/impl.mark").run Tryd.prog w = .ok (51, .agg #[.int .i64 1]) w := by kernel_rfl
theorem meth_2 (w : World) : (method 188 54 (.agg #[.int .i64 2]) "loop.example/g00206/impl.mark").run Tryd.prog w = .ok (51, .agg #[.int .i64 2]) w := by kernel_rfl
theorem meth_3 (w : World) : (method 188 55 (.agg #[]) "loop.example/g00206/impl.mark").run Tryd.prog w = .ok (52, .agg #[]) w := by kernel_rfl
theorem meth_4 (w : World) : (method 188 56 (.agg #[]) "loop.example/g00206/impl.mark").run Tryd.prog w = .ok (53, .agg #[]) w := by kernel_rfl
theorem meth_5 (w : World) : (method 188 57 (.agg #[]) "loop.example/g00206/impl.mark").run Tryd.prog w = .ok (54, .agg #[]) w := by kernel_rfl

/-- the first byte, in a row of the call's own -/
theorem ow_lit (w : World) (base : Nat) (x : Int) (h0 : 0 ≤ x) (h1 : x ≤ 255) (hb : base ≤ w.heap.size) : Ow base (w.alloc (.cells #[.int .u8 x] 5)) (.slice (some ⟨w.heap.size, 0, none⟩) 1 1) (fx x 1 1) := by
  have h := World.ownsRow_lit (base := base) (e := 5) (size := 1) w #[.int .u8 x] 1 hb (by unfold maxLen; omega) rfl
  have e := bs_fx1 x h0 h1
  unfold Ow
  rw [e, fx_length]
  exact h

end Go.Proofs.YtcmdnmmipbildaaDoor
