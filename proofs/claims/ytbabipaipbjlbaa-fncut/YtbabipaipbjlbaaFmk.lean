/-
  Contracts: a header's form by its number, and its mark, as header asks them.
-/
import Derived.Test.YtbabipaipbjlbaaBaseX
import Derived.WalkLawsBesides
namespace Go.Proofs.Ytbabipaipbjlbaa.Fm
open Go.ChangeShapes Go.WideShapes Go.ChangeAt Go.RowKit
set_option linter.unusedVariables false

theorem formOf_0 (w : World) :
    Calls Try.prog 53 #[.int .i64 0] w fun e w' => e = .returned (.tuple #[.iface 111 (.agg #[]), .bool true]) ∧ w' = w := by
  go_enter Try.func53, Try.ntmps53
  go_wp2
  go_ret2
  exact ⟨rfl, rfl⟩
theorem formOf_1 (w : World) :
    Calls Try.prog 53 #[.int .i64 1] w fun e w' => e = .returned (.tuple #[.iface 113 (.agg #[.int .i64 1]), .bool true]) ∧ w' = w := by
  go_enter Try.func53, Try.ntmps53
  go_wp2
  go_ret2
  exact ⟨rfl, rfl⟩
theorem formOf_2 (w : World) :
    Calls Try.prog 53 #[.int .i64 2] w fun e w' => e = .returned (.tuple #[.iface 113 (.agg #[.int .i64 2]), .bool true]) ∧ w' = w := by
  go_enter Try.func53, Try.ntmps53
  go_wp2
  go_ret2
  exact ⟨rfl, rfl⟩
theorem formOf_3 (w : World) :
    Calls Try.prog 53 #[.int .i64 3] w fun e w' => e = .returned (.tuple #[.iface 114 (.agg #[]), .bool true]) ∧ w' = w := by
  go_enter Try.func53, Try.ntmps53
  go_wp2
  go_ret2
  exact ⟨rfl, rfl⟩
theorem formOf_4 (w : World) :
    Calls Try.prog 53 #[.int .i64 4] w fun e w' => e = .returned (.tuple #[.iface 115 (.agg #[]), .bool true]) ∧ w' = w := by
  go_enter Try.func53, Try.ntmps53
  go_wp2
  go_ret2
  exact ⟨rfl, rfl⟩
theorem formOf_5 (w : World) :
    Calls Try.prog 53 #[.int .i64 5] w fun e w' => e = .returned (.tuple #[.iface 116 (.agg #[]), .bool true]) ∧ w' = w := by
  go_enter Try.func53, Try.ntmps53
  go_wp2
  go_ret2
  exact ⟨rfl, rfl⟩
theorem mark_0 (w : World) : Calls Try.prog 140 #[.agg #[]] w fun e w' => e = .returned (.int .i64 192) ∧ Below w.heap.size w w' := by
  go_enter Try.func140, Try.ntmps140
  go_wp2
  go_ret
  exact ⟨rfl, (Below.refl _ _).alloc (Nat.le_refl _) _⟩
theorem mark_1 (w : World) : Calls Try.prog 141 #[.agg #[.int .i64 1]] w fun e w' => e = .returned (.int .i64 208) ∧ Below w.heap.size w w' := by
  have e0 : bits .or .i64 192 (IntKind.i64.wrap 16) = 208 := by decide +kernel
  have e1 : bits .or .i64 192 16 = 208 := by decide +kernel
  go_enter Try.func141, Try.ntmps141
  go_wp2
  go_ret
  exact ⟨rfl, (Below.refl _ _).alloc (Nat.le_refl _) _⟩
theorem mark_2 (w : World) : Calls Try.prog 141 #[.agg #[.int .i64 2]] w fun e w' => e = .returned (.int .i64 224) ∧ Below w.heap.size w w' := by
  have e0 : bits .or .i64 192 (IntKind.i64.wrap 32) = 224 := by decide +kernel
  have e1 : bits .or .i64 192 32 = 224 := by decide +kernel
  go_enter Try.func141, Try.ntmps141
  go_wp2
  go_ret
  exact ⟨rfl, (Below.refl _ _).alloc (Nat.le_refl _) _⟩
theorem mark_3 (w : World) : Calls Try.prog 142 #[.agg #[]] w fun e w' => e = .returned (.int .i64 240) ∧ Below w.heap.size w w' := by
  go_enter Try.func142, Try.ntmps142
  go_wp2
  go_ret
  exact ⟨rfl, (Below.refl _ _).alloc (Nat.le_refl _) _⟩
theorem mark_4 (w : World) : Calls Try.prog 143 #[.agg #[]] w fun e w' => e = .returned (.int .i64 192) ∧ Below w.heap.size w w' := by
  go_enter Try.func143, Try.ntmps143
  go_wp2
  go_ret
  exact ⟨rfl, (Below.refl _ _).alloc (Nat.le_refl _) _⟩
theorem mark_5 (w : World) : Calls Try.prog 144 #[.agg #[]] w fun e w' => e = .returned (.int .i64 64) ∧ Below w.heap.size w w' := by
  go_enter Try.func144, Try.ntmps144
  go_wp2
  go_ret
  exact ⟨rfl, (Below.refl _ _).alloc (Nat.le_refl _) _⟩
theorem meth_0 (w : World) : (method 272 111 (.agg #[]) "loop.example/g00206/impl.mark").run Try.prog w = .ok (140, .agg #[]) w := by kernel_rfl
theorem meth_1 (w : World) : (method 272 113 (.agg #[.int .i64 1]) "loop.example/g00206/impl.mark").run Try.prog w = .ok (141, .agg #[.int .i64 1]) w := by kernel_rfl
theorem meth_2 (w : World) : (method 272 113 (.agg #[.int .i64 2]) "loop.example/g00206/impl.mark").run Try.prog w = .ok (141, .agg #[.int .i64 2]) w := by kernel_rfl
theorem meth_3 (w : World) : (method 272 114 (.agg #[]) "loop.example/g00206/impl.mark").run Try.prog w = .ok (142, .agg #[]) w := by kernel_rfl
theorem meth_4 (w : World) : (method 272 115 (.agg #[]) "loop.example/g00206/impl.mark").run Try.prog w = .ok (143, .agg #[]) w := by kernel_rfl
theorem meth_5 (w : World) : (method 272 116 (.agg #[]) "loop.example/g00206/impl.mark").run Try.prog w = .ok (144, .agg #[]) w := by kernel_rfl
end Go.Proofs.Ytbabipaipbjlbaa.Fm
