/-
  Contracts: HeaderBytes as the program makes it, form by form.
-/
import Derived.Test.YtmajcpimahkpfaaDoorNap
import Derived.Test.YtmajcpimahkpfaaDoorNlc
import Derived.Test.YtmajcpimahkpfaaDoorGhx
import Derived.Laws.OwnMore
namespace Go.Proofs.YtmajcpimahkpfaaDoor
open Go.ChangeShapes Go.WideShapes Go.ChangeAt Go.RowKit
set_option linter.unusedVariables false

theorem Ia.alloc {w : World} {a : Option Addr} {n cap : Nat} {V : Nat → Int} (h : Ia w a n cap V) (o : Obj) : Ia (w.alloc o) a n cap V := h.below ((Below.refl _ _).alloc (Nat.le_refl _) _)
theorem tz_lt {W : World} (h : Tz W) : 1 < W.heap.size := World.block_lt_of_cell? W _ h.c0
theorem mark_0 (w : World) : Calls Tryd.prog 81 #[.agg #[]] w fun e w' => e = .returned (.int .i64 192) ∧ Below w.heap.size w w' := by
  go_enter Tryd.func81, Tryd.ntmps81
  go_wp2
  go_ret
  exact ⟨rfl, (Below.refl _ _).alloc (Nat.le_refl _) _⟩
theorem mark_1 (w : World) : Calls Tryd.prog 82 #[.agg #[.int .i64 1]] w fun e w' => e = .returned (.int .i64 208) ∧ Below w.heap.size w w' := by
  have e0 : bits .or .i64 192 (IntKind.i64.wrap 16) = 208 := by decide +kernel
  have e1 : bits .or .i64 192 16 = 208 := by decide +kernel
  go_enter Tryd.func82, Tryd.ntmps82
  go_wp2
  go_ret
  exact ⟨rfl, (Below.refl _ _).alloc (Nat.le_refl _) _⟩
theorem mark_2 (w : World) : Calls Tryd.prog 82 #[.agg #[.int .i64 2]] w fun e w' => e = .returned (.int .i64 224) ∧ Below w.heap.size w w' := by
  have e0 : bits .or .i64 192 (IntKind.i64.wrap 32) = 224 := by decide +kernel
  have e1 : bits .or .i64 192 32 = 224 := by decide +kernel
  go_enter Tryd.func82, Tryd.ntmps82
  go_wp2
  go_ret
  exact ⟨rfl, (Below.refl _ _).alloc (Nat.le_refl _) _⟩
theorem mark_3 (w : World) : Calls Tryd.prog 83 #[.agg #[]] w fun e w' => e = .returned (.int .i64 240) ∧ Below w.heap.size w w' := by
  go_enter Tryd.func83, Tryd.ntmps83
  go_wp2
  go_ret
  exact ⟨rfl, (Below.refl _ _).alloc (Nat.le_refl _) _⟩
theorem mark_4 (w : World) : Calls Tryd.prog 84 #[.agg #[]] w fun e w' => e = .returned (.int .i64 192) ∧ Below w.heap.size w w' := by
  go_enter Tryd.func84, Tryd.ntmps84
  go_wp2
  go_ret
  exact ⟨rfl, (Below.refl _ _).alloc (Nat.le_refl _) _⟩
theorem mark_5 (w : World) : Calls Tryd.prog 85 #[.agg #[]] w fun e w' => e = .returned (.int .i64 64) ∧ Below w.heap.size w w' := by
  go_enter Tryd.func85, Tryd.ntmps85
  go_wp2
  go_ret
  exact ⟨rfl, (Below.refl _ _).alloc (Nat.le_refl _) _⟩
theorem meth_0 (w : World) : (method 209 58 (.agg #[]) "loop.example/g00206/impl.mark").run Tryd.prog w = .ok (81, .agg #[]) w := by kernel_rfl
theorem meth_1 (w : World) : (method 209 60 (.agg #[.int .i64 1]) "loop.example/g00206/impl.mark").run Tryd.prog w = .ok (82, .agg #[.int .i64 1]) w := by kernel_rfl
theorem meth_2 (w : World) : (method 209 60 (.agg #[.int .i64 2]) "loop.example/g00206/impl.mark").run Tryd.prog w = .ok (82, .agg #[.int .i64 2]) w := by kernel_rfl
theorem meth_3 (w : World) : (method 209 61 (.agg #[]) "loop.example/g00206/impl.mark").run Tryd.prog w = .ok (83, .agg #[]) w := by kernel_rfl
theorem meth_4 (w : World) : (method 209 62 (.agg #[]) "loop.example/g00206/impl.mark").run Tryd.prog w = .ok (84, .agg #[]) w := by kernel_rfl
theorem meth_5 (w : World) : (method 209 63 (.agg #[]) "loop.example/g00206/impl.mark").run Tryd.prog w = .ok (85, .agg #[]) w := by kernel_rfl

/-- the first byte, in a row of the call's own -/
theorem ow_lit (w : World) (base : Nat) (x : Int) (h0 : 0 ≤ x) (h1 : x ≤ 255) (hb : base ≤ w.heap.size) : Ow base (w.alloc (.cells #[.int .u8 x] 5)) (.slice (some ⟨w.heap.size, 0, none⟩) 1 1) (fx x 1 1) := by
  have h := World.ownsRow_lit (base := base) (e := 5) (size := 1) w #[.int .u8 x] 1 hb (by unfold maxLen; omega) rfl
  have e := bs_fx1 x h0 h1
  unfold Ow
  rw [e, fx_length]
  exact h

end Go.Proofs.YtmajcpimahkpfaaDoor
