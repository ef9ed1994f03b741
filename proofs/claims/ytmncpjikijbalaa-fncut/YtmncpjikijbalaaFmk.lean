/-
  Contracts: a header's form by its number, and its mark, as header asks them.
-/
import Derived.Test.YtmncpjikijbalaaBase
import Derived.WalkLawsBesides
namespace Go.Proofs.Ytmncpjikijbalaa.Fm
open Go.ChangeShapes Go.WideShapes Go.ChangeAt Go.RowKit
set_option linter.unusedVariables false

theorem formOf_0 (w : World) :
    Calls Try.prog 32 #[.int .i64 0] w fun e w' => e = .returned (.tuple #[.iface 75 (.agg #[]), .bool true]) ∧ w' = w := by
  go_enter Try.func32, Try.ntmps32
  go_wp2
  go_ret2
  exact ⟨rfl, rfl⟩
theorem formOf_1 (w : World) :
    Calls Try.prog 32 #[.int .i64 1] w fun e w' => e = .returned (.tuple #[.iface 77 (.agg #[.int .i64 1]), .bool true]) ∧ w' = w := by
  go_enter Try.func32, Try.ntmps32
  go_wp2
  go_ret2
  exact ⟨rfl, rfl⟩
theorem formOf_2 (w : World) :
    Calls Try.prog 32 #[.int .i64 2] w fun e w' => e = .returned (.tuple #[.iface 77 (.agg #[.int .i64 2]), .bool true]) ∧ w' = w := by
  go_enter Try.func32, Try.ntmps32
  go_wp2
  go_ret2
  exact ⟨rfl, rfl⟩
theorem formOf_3 (w : World) :
    Calls Try.prog 32 #[.int .i64 3] w fun e w' => e = .returned (.tuple #[.iface 78 (.agg #[]), .bool true]) ∧ w' = w := by
  go_enter Try.func32, Try.ntmps32
  go_wp2
  go_ret2
  exact ⟨rfl, rfl⟩
theorem formOf_4 (w : World) :
    Calls Try.prog 32 #[.int .i64 4] w fun e w' => e = .returned (.tuple #[.iface 79 (.agg #[]), .bool true]) ∧ w' = w := by
  go_enter Try.func32, Try.ntmps32
  go_wp2
  go_ret2
  exact ⟨rfl, rfl⟩
theorem formOf_5 (w : World) :
    Calls Try.prog 32 #[.int .i64 5] w fun e w' => e = .returned (.tuple #[.iface 80 (.agg #[]), .bool true]) ∧ w' = w := by
  go_enter Try.func32, Try.ntmps32
  go_wp2
  go_ret2
  exact ⟨rfl, rfl⟩
theorem mark_0 (w : World) : Calls Try.prog 88 #[.agg #[]] w fun e w' => e = .returned (.int .i64 192) ∧ Below w.heap.size w w' := by
  go_enter Try.func88, Try.ntmps88
  go_wp2
  go_ret
  exact ⟨rfl, (Below.refl _ _).alloc (Nat.le_refl _) _⟩
theorem mark_1 (w : World) : Calls Try.prog 89 #[.agg #[.int .i64 1]] w fun e w' => e = .returned (.int .i64 208) ∧ Below w.heap.size w w' := by
  have e0 : bits .or .i64 192 (IntKind.i64.wrap 16) = 208 := by decide +kernel
  have e1 : bits .or .i64 192 16 = 208 := by decide +kernel
  go_enter Try.func89, Try.ntmps89
  go_wp2
  go_ret
  exact ⟨rfl, (Below.refl _ _).alloc (Nat.le_refl _) _⟩
theorem mark_2 (w : World) : Calls Try.prog 89 #[.agg #[.int .i64 2]] w fun e w' => e = .returned (.int .i64 224) ∧ Below w.heap.size w w' := by
  have e0 : bits .or .i64 192 (IntKind.i64.wrap 32) = 224 := by decide +kernel
  have e1 : bits .or .i64 192 32 = 224 := by decide +kernel
  go_enter Try.func89, Try.ntmps89
  go_wp2
  go_ret
  exact ⟨rfl, (Below.refl _ _).alloc (Nat.le_refl _) _⟩
theorem mark_3 (w : World) : Calls Try.prog 90 #[.agg #[]] w fun e w' => e = .returned (.int .i64 240) ∧ Below w.heap.size w w' := by
  go_enter Try.func90, Try.ntmps90
  go_wp2
  go_ret
  exact ⟨rfl, (Below.refl _ _).alloc (Nat.le_refl _) _⟩
theorem mark_4 (w : World) : Calls Try.prog 91 #[.agg #[]] w fun e w' => e = .returned (.int .i64 192) ∧ Below w.heap.size w w' := by
  go_enter Try.func91, Try.ntmps91
  go_wp2
  go_ret
  exact ⟨rfl, (Below.refl _ _).alloc (Nat.le_refl _) _⟩
theorem mark_5 (w : World) : Calls Try.prog 92 #[.agg #[]] w fun e w' => e = .returned (.int .i64 64) ∧ Below w.heap.size w w' := by
  go_enter Try.func92, Try.ntmps92
  go_wp2
  go_ret
  exact ⟨rfl, (Below.refl _ _).alloc (Nat.le_refl _) _⟩
theorem meth_0 (w : World) : (method 212 75 (.agg #[]) "loop.example/g00206/impl.mark").run Try.prog w = .ok (88, .agg #[]) w := by kernel_rfl
theorem meth_1 (w : World) : (method 212 77 (.agg #[.int .i64 1]) "loop.example/g00206/impl.mark").run Try.prog w = .ok (89, .agg #[.int .i64 1]) w := by kernel_rfl
theorem meth_2 (w : World) : (method 212 77 (.agg #[.int .i64 2]) "loop.example/g00206/impl.mark").run Try.prog w = .ok (89, .agg #[.int .i64 2]) w := by kernel_rfl
theorem meth_3 (w : World) : (method 212 78 (.agg #[]) "loop.example/g00206/impl.mark").run Try.prog w = .ok (90, .agg #[]) w := by kernel_rfl
theorem meth_4 (w : World) : (method 212 79 (.agg #[]) "loop.example/g00206/impl.mark").run Try.prog w = .ok (91, .agg #[]) w := by kernel_rfl
theorem meth_5 (w : World) : (method 212 80 (.agg #[]) "loop.example/g00206/impl.mark").run Try.prog w = .ok (92, .agg #[]) w := by kernel_rfl
end Go.Proofs.Ytmncpjikijbalaa.Fm
