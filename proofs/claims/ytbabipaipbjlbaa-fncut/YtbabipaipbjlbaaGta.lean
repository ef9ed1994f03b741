/-
  What the type switch over a header's form sees.
-/
import Derived.Test.YtbabipaipbjlbaaBaseX
import Derived.Carry
namespace Go.Proofs.Ytbabipaipbjlbaa
open Go.ChangeShapes Go.WideShapes Go.ChangeAt Go.RowKit
set_option linter.unusedVariables false
set_option maxRecDepth 100000

theorem ta_00 (w : World) : (Instr.typeAssert (.iface 111 (.agg #[])) 86 111 true).run Try.prog w = .ok (.tuple #[.agg #[], .bool true]) w := by kernel_rfl
theorem ta_01 (w : World) : (Instr.typeAssert (.iface 111 (.agg #[])) 86 113 true).run Try.prog w = .ok (.tuple #[.agg #[.int .i64 0], .bool false]) w := by kernel_rfl
theorem ta_02 (w : World) : (Instr.typeAssert (.iface 111 (.agg #[])) 86 114 true).run Try.prog w = .ok (.tuple #[.agg #[], .bool false]) w := by kernel_rfl
theorem ta_03 (w : World) : (Instr.typeAssert (.iface 111 (.agg #[])) 86 115 true).run Try.prog w = .ok (.tuple #[.agg #[], .bool false]) w := by kernel_rfl
theorem ta_04 (w : World) : (Instr.typeAssert (.iface 111 (.agg #[])) 86 116 true).run Try.prog w = .ok (.tuple #[.agg #[], .bool false]) w := by kernel_rfl
theorem ta_10 (w : World) : (Instr.typeAssert (.iface 113 (.agg #[.int .i64 1])) 86 111 true).run Try.prog w = .ok (.tuple #[.agg #[], .bool false]) w := by kernel_rfl
theorem ta_11 (w : World) : (Instr.typeAssert (.iface 113 (.agg #[.int .i64 1])) 86 113 true).run Try.prog w = .ok (.tuple #[.agg #[.int .i64 1], .bool true]) w := by kernel_rfl
theorem ta_12 (w : World) : (Instr.typeAssert (.iface 113 (.agg #[.int .i64 1])) 86 114 true).run Try.prog w = .ok (.tuple #[.agg #[], .bool false]) w := by kernel_rfl
theorem ta_13 (w : World) : (Instr.typeAssert (.iface 113 (.agg #[.int .i64 1])) 86 115 true).run Try.prog w = .ok (.tuple #[.agg #[], .bool false]) w := by kernel_rfl
theorem ta_14 (w : World) : (Instr.typeAssert (.iface 113 (.agg #[.int .i64 1])) 86 116 true).run Try.prog w = .ok (.tuple #[.agg #[], .bool false]) w := by kernel_rfl
theorem ta_20 (w : World) : (Instr.typeAssert (.iface 113 (.agg #[.int .i64 2])) 86 111 true).run Try.prog w = .ok (.tuple #[.agg #[], .bool false]) w := by kernel_rfl
theorem ta_21 (w : World) : (Instr.typeAssert (.iface 113 (.agg #[.int .i64 2])) 86 113 true).run Try.prog w = .ok (.tuple #[.agg #[.int .i64 2], .bool true]) w := by kernel_rfl
theorem ta_22 (w : World) : (Instr.typeAssert (.iface 113 (.agg #[.int .i64 2])) 86 114 true).run Try.prog w = .ok (.tuple #[.agg #[], .bool false]) w := by kernel_rfl
theorem ta_23 (w : World) : (Instr.typeAssert (.iface 113 (.agg #[.int .i64 2])) 86 115 true).run Try.prog w = .ok (.tuple #[.agg #[], .bool false]) w := by kernel_rfl
theorem ta_24 (w : World) : (Instr.typeAssert (.iface 113 (.agg #[.int .i64 2])) 86 116 true).run Try.prog w = .ok (.tuple #[.agg #[], .bool false]) w := by kernel_rfl
theorem ta_30 (w : World) : (Instr.typeAssert (.iface 114 (.agg #[])) 86 111 true).run Try.prog w = .ok (.tuple #[.agg #[], .bool false]) w := by kernel_rfl
theorem ta_31 (w : World) : (Instr.typeAssert (.iface 114 (.agg #[])) 86 113 true).run Try.prog w = .ok (.tuple #[.agg #[.int .i64 0], .bool false]) w := by kernel_rfl
theorem ta_32 (w : World) : (Instr.typeAssert (.iface 114 (.agg #[])) 86 114 true).run Try.prog w = .ok (.tuple #[.agg #[], .bool true]) w := by kernel_rfl
theorem ta_33 (w : World) : (Instr.typeAssert (.iface 114 (.agg #[])) 86 115 true).run Try.prog w = .ok (.tuple #[.agg #[], .bool false]) w := by kernel_rfl
theorem ta_34 (w : World) : (Instr.typeAssert (.iface 114 (.agg #[])) 86 116 true).run Try.prog w = .ok (.tuple #[.agg #[], .bool false]) w := by kernel_rfl
theorem ta_40 (w : World) : (Instr.typeAssert (.iface 115 (.agg #[])) 86 111 true).run Try.prog w = .ok (.tuple #[.agg #[], .bool false]) w := by kernel_rfl
theorem ta_41 (w : World) : (Instr.typeAssert (.iface 115 (.agg #[])) 86 113 true).run Try.prog w = .ok (.tuple #[.agg #[.int .i64 0], .bool false]) w := by kernel_rfl
theorem ta_42 (w : World) : (Instr.typeAssert (.iface 115 (.agg #[])) 86 114 true).run Try.prog w = .ok (.tuple #[.agg #[], .bool false]) w := by kernel_rfl
theorem ta_43 (w : World) : (Instr.typeAssert (.iface 115 (.agg #[])) 86 115 true).run Try.prog w = .ok (.tuple #[.agg #[], .bool true]) w := by kernel_rfl
theorem ta_44 (w : World) : (Instr.typeAssert (.iface 115 (.agg #[])) 86 116 true).run Try.prog w = .ok (.tuple #[.agg #[], .bool false]) w := by kernel_rfl
theorem ta_50 (w : World) : (Instr.typeAssert (.iface 116 (.agg #[])) 86 111 true).run Try.prog w = .ok (.tuple #[.agg #[], .bool false]) w := by kernel_rfl
theorem ta_51 (w : World) : (Instr.typeAssert (.iface 116 (.agg #[])) 86 113 true).run Try.prog w = .ok (.tuple #[.agg #[.int .i64 0], .bool false]) w := by kernel_rfl
theorem ta_52 (w : World) : (Instr.typeAssert (.iface 116 (.agg #[])) 86 114 true).run Try.prog w = .ok (.tuple #[.agg #[], .bool false]) w := by kernel_rfl
theorem ta_53 (w : World) : (Instr.typeAssert (.iface 116 (.agg #[])) 86 115 true).run Try.prog w = .ok (.tuple #[.agg #[], .bool false]) w := by kernel_rfl
theorem ta_54 (w : World) : (Instr.typeAssert (.iface 116 (.agg #[])) 86 116 true).run Try.prog w = .ok (.tuple #[.agg #[], .bool true]) w := by kernel_rfl
end Go.Proofs.Ytbabipaipbjlbaa
