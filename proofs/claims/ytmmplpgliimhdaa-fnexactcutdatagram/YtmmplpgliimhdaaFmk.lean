/-
  Contracts: a header's form by its number, and its mark, as header asks them.
-/
import Derived.Test.YtmmplpgliimhdaaBase
import Derived.WalkLawsBesides
namespace Go.Proofs.Ytmmplpgliimhdaa
open Go.ChangeShapes Go.WideShapes Go.ChangeAt Go.RowKit
set_option linter.unusedVariables false

theorem formOf_0 (w : World) :
    Calls Try.prog 26 #[.int .i64 0] w fun e w' => e = .returned (.tuple #[.iface 63 (.agg #[]), .bool true]) ∧ w' = w := by
  go_enter Try.func26, Try.ntmps26
  go_wp2
  go_ret2
  exact ⟨rfl, rfl⟩
theorem formOf_1 (w : World) :
    Calls Try.prog 26 #[.int .i64 1] w fun e w' => e = .returned (.tuple #[.iface 65 (.agg #[.int .i64 1]), .bool true]) ∧ w' = w := by
  go_enter Try.func26, Try.ntmps26
  go_wp2
  go_ret2
  exact ⟨rfl, rfl⟩
theorem formOf_2 (w : World) :
    Calls Try.prog 26 #[.int .i64 2] w fun e w' => e = .returned (.tuple #[.iface 65 (.agg #[.int .i64 2]), .bool true]) ∧ w' = w := by
  go_enter Try.func26, Try.ntmps26
  go_wp2
  go_ret2
  exact ⟨rfl, rfl⟩
theorem formOf_3 (w : World) :
    Calls Try.prog 26 #[.int .i64 3] w fun e w' => e = .returned (.tuple #[.iface 66 (.agg #[]), .bool true]) ∧ w' = w := by
  go_enter Try.func26, Try.ntmps26
  go_wp2
  go_ret2
  exact ⟨rfl, rfl⟩
theorem formOf_4 (w : World) :
    Calls Try.prog 26 #[.int .i64 4] w fun e w' => e = .returned (.tuple #[.iface 67 (.agg #[]), .bool true]) ∧ w' = w := by
  go_enter Try.func26, Try.ntmps26
  go_wp2
  go_ret2
  exact ⟨rfl, rfl⟩
theorem formOf_5 (w : World) :
    Calls Try.prog 26 #[.int .i64 5] w fun e w' => e = .returned (.tuple #[.iface 68 (.agg #[]), .bool true]) ∧ w' = w := by
  go_enter Try.func26, Try.ntmps26
  go_wp2
  go_ret2
  exact ⟨rfl, rfl⟩
theorem mark_0 (w : World) : Calls Try.prog 60 #[.agg #[]] w fun e w' => e = .returned (.int .i64 192) ∧ Below w.heap.size w w' := by
  go_enter Try.func60, Try.ntmps60
  go_wp2
  go_ret
  exact ⟨rfl, (Below.refl _ _).alloc (Nat.le_refl _) _⟩
theorem mark_1 (w : World) : Calls Try.prog 61 #[.agg #[.int .i64 1]] w fun e w' => e = .returned (.int .i64 208) ∧ Below w.heap.size w w' := by
  have e0 : bits .or .i64 192 (IntKind.i64.wrap 16) = 208 := by decide +kernel
  have e1 : bits .or .i64 192 16 = 208 := by decide +kernel
  go_enter Try.func61, Try.ntmps61
  go_wp2
  go_ret
  exact ⟨rfl, (Below.refl _ _).alloc (Nat.le_refl _) _⟩
theorem mark_2 (w : World) : Calls Try.prog 61 #[.agg #[.int .i64 2]] w fun e w' => e = .returned (.int .i64 224) ∧ Below w.heap.size w w' := by
  have e0 : bits .or .i64 192 (IntKind.i64.wrap 32) = 224 := by decide +kernel
  have e1 : bits .or .i64 192 32 = 224 := by decide +kernel
  go_enter Try.func61, Try.ntmps61
  go_wp2
  go_ret
  exact ⟨rfl, (Below.refl _ _).alloc (Nat.le_refl _) _⟩
theorem mark_3 (w : World) : Calls Try.prog 62 #[.agg #[]] w fun e w' => e = .returned (.int .i64 240) ∧ Below w.heap.size w w' := by
  go_enter Try.func62, Try.ntmps62
  go_wp2
  go_ret
  exact ⟨rfl, (Below.refl _ _).alloc (Nat.le_refl _) _⟩
theorem mark_4 (w : World) : Calls Try.prog 63 #[.agg #[]] w fun e w' => e = .returned (.int .i64 192) ∧ Below w.heap.size w w' := by
  go_enter Try.func63, Try.ntmps63
  go_wp2
  go_ret
  exact ⟨rfl, (Below.refl _ _).alloc (Nat.le_refl _) _⟩
theorem mark_5 (w : World) : Calls Try.prog 64 #[.agg #[]] w fun e w' => e = .returned (.int .i64 64) ∧ Below w.heap.size w w' := by
  go_enter Try.func64, Try.ntmps64
  go_wp2
  go_ret
  exact ⟨rfl, (Below.refl _ _).alloc (Nat.le_refl _) _⟩
theorem meth_0 (w : World) : (method 188 63 (.agg #[]) "loop.example/g00206/impl.mark").run Try.prog w = .ok (60, .agg #[]) w := by kernel_rfl
theorem meth_1 (w : World) : (method 188 65 (.agg #[.int .i64 1]) "loop.example/g00206/impl.mark").run Try.prog w = .ok (61, .agg #[.int .i64 1]) w := by kernel_rfl
theorem meth_2 (w : World) : (method 188 65 (.agg #[.int .i64 2]) "loop.example/g00206/impl.mark").run Try.prog w = .ok (61, .agg #[.int .i64 2]) w := by kernel_rfl
theorem meth_3 (w : World) : (method 188 66 (.agg #[]) "loop.example/g00206/impl.mark").run Try.prog w = .ok (62, .agg #[]) w := by kernel_rfl
theorem meth_4 (w : World) : (method 188 67 (.agg #[]) "loop.example/g00206/impl.mark").run Try.prog w = .ok (63, .agg #[]) w := by kernel_rfl
theorem meth_5 (w : World) : (method 188 68 (.agg #[]) "loop.example/g00206/impl.mark").run Try.prog w = .ok (64, .agg #[]) w := by kernel_rfl
end Go.Proofs.Ytmmplpgliimhdaa
