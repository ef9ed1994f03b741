/-
  What the type switch over a header's form sees.
-/
import Derived.Test.YtoeiicoaknnomaaBase
import Derived.Carry
namespace Go.Proofs.Ytoeiicoaknnomaa
open Go.ChangeShapes Go.WideShapes Go.ChangeAt Go.RowKit
set_option linter.unusedVariables false

theorem ta_00 (w : World) : (Instr.typeAssert (.iface 47 (.agg #[])) 42 47 true).run Try.prog w = .ok (.tuple #[.agg #[], .bool true]) w := by kernel_rfl
theorem ta_01 (w : World) : (Instr.typeAssert (.iface 47 (.agg #[])) 42 49 true).run Try.prog w = .ok (.tuple #[.agg #[.int .i64 0], .bool false]) w := by kernel_rfl
theorem ta_02 (w : World) : (Instr.typeAssert (.iface 47 (.agg #[])) 42 50 true).run Try.prog w = .ok (.tuple #[.agg #[], .bool false]) w := by kernel_rfl
theorem ta_03 (w : World) : (Instr.typeAssert (.iface 47 (.agg #[])) 42 51 true).run Try.prog w = .ok (.tuple #[.agg #[], .bool false]) w := by kernel_rfl
theorem ta_04 (w : World) : (Instr.typeAssert (.iface 47 (.agg #[])) 42 52 true).run Try.prog w = .ok (.tuple #[.agg #[], .bool false]) w := by kernel_rfl
theorem ta_10 (w : World) : (Instr.typeAssert (.iface 49 (.agg #[.int .i64 1])) 42 47 true).run Try.prog w = .ok (.tuple #[.agg #[], .bool false]) w := by kernel_rfl
theorem ta_11 (w : World) : (Instr.typeAssert (.iface 49 (.agg #[.int .i64 1])) 42 49 true).run Try.prog w = .ok (.tuple #[.agg #[.int .i64 1], .bool true]) w := by kernel_rfl
theorem ta_12 (w : World) : (Instr.typeAssert (.iface 49 (.agg #[.int .i64 1])) 42 50 true).run Try.prog w = .ok (.tuple #[.agg #[], .bool false]) w := by kernel_rfl
theorem ta_13 (w : World) : (Instr.typeAssert (.iface 49 (.agg #[.int .i64 1])) 42 51 true).run Try.prog w = .ok (.tuple #[.agg #[], .bool false]) w := by kernel_rfl
theorem ta_14 (w : World) : (Instr.typeAssert (.iface 49 (.agg #[.int .i64 1])) 42 52 true).run Try.prog w = .ok (.tuple #[.agg #[], .bool false]) w := by kernel_rfl
theorem ta_20 (w : World) : (Instr.typeAssert (.iface 49 (.agg #[.int .i64 2])) 42 47 true).run Try.prog w = .ok (.tuple #[.agg #[], .bool false]) w := by kernel_rfl
theorem ta_21 (w : World) : (Instr.typeAssert (.iface 49 (.agg #[.int .i64 2])) 42 49 true).run Try.prog w = .ok (.tuple #[.agg #[.int .i64 2], .bool true]) w := by kernel_rfl
theorem ta_22 (w : World) : (Instr.typeAssert (.iface 49 (.agg #[.int .i64 2])) 42 50 true).run Try.prog w = .ok (.tuple #[.agg #[], .bool false]) w := by kernel_rfl
theorem ta_23 (w : World) : (Instr.typeAssert (.iface 49 (.agg #[.int .i64 2])) 42 51 true).run Try.prog w = .ok (.tuple #[.agg #[], .bool false]) w := by kernel_rfl
theorem ta_24 (w : World) : (Instr.typeAssert (.iface 49 (.agg #[.int .i64 2])) 42 52 true).run Try.prog w = .ok (.tuple #[.agg #[], .bool false]) w := by kernel_rfl
theorem ta_30 (w : World) : (Instr.typeAssert (.iface 50 (.agg #[])) 42 47 true).run Try.prog w = .ok (.tuple #[.agg #[], .bool false]) w := by kernel_rfl
theorem ta_31 (w : World) : (Instr.typeAssert (.iface 50 (.agg #[])) 42 49 true).run Try.prog w = .ok (.tuple #[.agg #[.int .i64 0], .bool false]) w := by kernel_rfl
theorem ta_32 (w : World) : (Instr.typeAssert (.iface 50 (.agg #[])) 42 50 true).run Try.prog w = .ok (.tuple #[.agg #[], .bool true]) w := by kernel_rfl
theorem ta_33 (w : World) : (Instr.typeAssert (.iface 50 (.agg #[])) 42 51 true).run Try.prog w = .ok (.tuple #[.agg #[], .bool false]) w := by kernel_rfl
theorem ta_34 (w : World) : (Instr.typeAssert (.iface 50 (.agg #[])) 42 52 true).run Try.prog w = .ok (.tuple #[.agg #[], .bool false]) w := by kernel_rfl
theorem ta_40 (w : World) : (Instr.typeAssert (.iface 51 (.agg #[])) 42 47 true).run Try.prog w = .ok (.tuple #[.agg #[], .bool false]) w := by kernel_rfl
theorem ta_41 (w : World) : (Instr.typeAssert (.iface 51 (.agg #[])) 42 49 true).run Try.prog w = .ok (.tuple #[.agg #[.int .i64 0], .bool false]) w := by kernel_rfl
theorem ta_42 (w : World) : (Instr.typeAssert (.iface 51 (.agg #[])) 42 50 true).run Try.prog w = .ok (.tuple #[.agg #[], .bool false]) w := by kernel_rfl
theorem ta_43 (w : World) : (Instr.typeAssert (.iface 51 (.agg #[])) 42 51 true).run Try.prog w = .ok (.tuple #[.agg #[], .bool true]) w := by kernel_rfl
theorem ta_44 (w : World) : (Instr.typeAssert (.iface 51 (.agg #[])) 42 52 true).run Try.prog w = .ok (.tuple #[.agg #[], .bool false]) w := by kernel_rfl
theorem ta_50 (w : World) : (Instr.typeAssert (.iface 52 (.agg #[])) 42 47 true).run Try.prog w = .ok (.tuple #[.agg #[], .bool false]) w := by kernel_rfl
theorem ta_51 (w : World) : (Instr.typeAssert (.iface 52 (.agg #[])) 42 49 true).run Try.prog w = .ok (.tuple #[.agg #[.int .i64 0], .bool false]) w := by kernel_rfl
theorem ta_52 (w : World) : (Instr.typeAssert (.iface 52 (.agg #[])) 42 50 true).run Try.prog w = .ok (.tuple #[.agg #[], .bool false]) w := by kernel_rfl
theorem ta_53 (w : World) : (Instr.typeAssert (.iface 52 (.agg #[])) 42 51 true).run Try.prog w = .ok (.tuple #[.agg #[], .bool false]) w := by kernel_rfl
theorem ta_54 (w : World) : (Instr.typeAssert (.iface 52 (.agg #[])) 42 52 true).run Try.prog w = .ok (.tuple #[.agg #[], .bool true]) w := by kernel_rfl
end Go.Proofs.Ytoeiicoaknnomaa
