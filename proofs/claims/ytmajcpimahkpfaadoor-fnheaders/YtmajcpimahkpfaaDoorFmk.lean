/-
  Contracts: a header's form by its number, and its mark, as header asks them.
-/
import Derived.Test.YtmajcpimahkpfaaDoorBase
import Derived.WalkLawsBesides
namespace Go.Proofs.YtmajcpimahkpfaaDoor.Fm
open Go.ChangeShapes Go.WideShapes Go.ChangeAt Go.RowKit
set_option linter.unusedVariables false

theorem formOf_0 (w : World) :
    Calls Tryd.prog 12 #[.int .i64 0] w fun e w' => e = .returned (.tuple #[.iface 58 (.agg #[]), .bool true]) ∧ w' = w := by
  go_enter Tryd.func12, Tryd.ntmps12
  go_wp2
  go_ret2
  exact ⟨rfl, rfl⟩
theorem formOf_1 (w : World) :
    Calls Tryd.prog 12 #[.int .i64 1] w fun e w' => e = .returned (.tuple #[.iface 60 (.agg #[.int .i64 1]), .bool true]) ∧ w' = w := by
  go_enter Tryd.func12, Tryd.ntmps12
  go_wp2
  go_ret2
  exact ⟨rfl, rfl⟩
theorem formOf_2 (w : World) :
    Calls Tryd.prog 12 #[.int .i64 2] w fun e w' => e = .returned (.tuple #[.iface 60 (.agg #[.int .i64 2]), .bool true]) ∧ w' = w := by
  go_enter Tryd.func12, Tryd.ntmps12
  go_wp2
  go_ret2
  exact ⟨rfl, rfl⟩
theorem formOf_3 (w : World) :
    Calls Tryd.prog 12 #[.int .i64 3] w fun e w' => e = .returned (.tuple #[.iface 61 (.agg #[]), .bool true]) ∧ w' = w := by
  go_enter Tryd.func12, Tryd.ntmps12
  go_wp2
  go_ret2
  exact ⟨rfl, rfl⟩
theorem formOf_4 (w : World) :
    Calls Tryd.prog 12 #[.int .i64 4] w fun e w' => e = .returned (.tuple #[.iface 62 (.agg #[]), .bool true]) ∧ w' = w := by
  go_enter Tryd.func12, Tryd.ntmps12
  go_wp2
  go_ret2
  exact ⟨rfl, rfl⟩
theorem formOf_5 (w : World) :
    Calls Tryd.prog 12 #[.int .i64 5] w fun e w' => e = .returned (.tuple #[.iface 63 (.agg #[]), .bool true]) ∧ w' = w := by
  go_enter Tryd.func12, Tryd.ntmps12
  go_wp2
  go_ret2
  exact ⟨rfl, rfl⟩
theorem mark_0 (w : World) : Calls Tryd.prog 81 #[.agg #[]] w fun e w' => e = .returned (.int .i64 192) ∧ Below w.heap.size w w' := by
  go_enter Tryd.func81, Tryd.ntmps81
  go_wp2
  go_ret
  exact ⟨rfl, (Below.refl _ _).alloc (Nat.le_refl _) _⟩
theorem mark_1 (w : World) : Calls Tryd.prog 82 #[.agg #[.int .i64 1]] w fun e w' => e = .returned (.int .i64 208) ∧ Below w.heap.size w w' := by
  have e0 : bits .or .i64 192 (IntKind.i64.wrap 16) = 208 := by decide +kernel
  have e1 : bits .or .i64 192 16 = 208 := by decide +kernel
  go_enter Tryd.func82, Tryd.ntmps82
  go_wp2
  go_ret
  exact ⟨rfl, (Below.refl _ _).alloc (Nat.le_refl _) _⟩
theorem mark_2 (w : World) : Calls Tryd.prog 82 #[.agg #[.int .i64 2]] w fun e w' => e = .returned (.int .i64 224) ∧ Below w.heap.size w w' := by
  have e0 : bits .or .i64 192 (IntKind.i64.wrap 32) = 224 := by decide +kernel
  have e1 : bits .or .i64 192 32 = 224 := by decide +kernel
  go_enter Tryd.func82, Tryd.ntmps82
  go_wp2
  go_ret
  exact ⟨rfl, (Below.refl _ _).alloc (Nat.le_refl _) _⟩
theorem mark_3 (w : World) : Calls Tryd.prog 83 #[.agg #[]] w fun e w' => e = .returned (.int .i64 240) ∧ Below w.heap.size w w' := by
  go_enter Tryd.func83, Tryd.ntmps83
  go_wp2
  go_ret
  exact ⟨rfl, (Below.refl _ _).alloc (Nat.le_refl _) _⟩
theorem mark_4 (w : World) : Calls Tryd.prog 84 #[.agg #[]] w fun e w' => e = .returned (.int .i64 192) ∧ Below w.heap.size w w' := by
  go_enter Tryd.func84, Tryd.ntmps84
  go_wp2
  go_ret
  exact ⟨rfl, (Below.refl _ _).alloc (Nat.le_refl _) _⟩
theorem mark_5 (w : World) : Calls Tryd.prog 85 #[.agg #[]] w fun e w' => e = .returned (.int .i64 64) ∧ Below w.heap.size w w' := by
  go_enter Tryd.func85, Tryd.ntmps85
  go_wp2
  go_ret
  exact ⟨rfl, (Below.refl _ _).alloc (Nat.le_refl _) _⟩
theorem meth_0 (w : World) : (method 209 58 (.agg #[]) "loop.example/g00206/impl.mark").run Tryd.prog w = .ok (81, .agg #[]) w := by kernel_rfl
theorem meth_1 (w : World) : (method 209 60 (.agg #[.int .i64 1]) "loop.example/g00206/impl.mark").run Tryd.prog w = .ok (82, .agg #[.int .i64 1]) w := by kernel_rfl
theorem meth_2 (w : World) : (method 209 60 (.agg #[.int .i64 2]) "loop.example/g00206/impl.mark").run Tryd.prog w = .ok (82, .agg #[.int .i64 2]) w := by kernel_rfl
theorem meth_3 (w : World) : (method 209 61 (.agg #[]) "loop.example/g00206/impl.mark").run Tryd.prog w = .ok (83, .agg #[]) w := by kernel_rfl
theorem meth_4 (w : World) : (method 209 62 (.agg #[]) "loop.example/g00206/impl.mark").run Tryd.prog w = .ok (84, .agg #[]) w := by kernel_rfl
theorem meth_5 (w : World) : (method 209 63 (.agg #[]) "loop.example/g00206/impl.mark").run Tryd.prog w = .ok (85, .agg #[]) w := by kernel_rfl
end Go.Proofs.YtmajcpimahkpfaaDoor.Fm
