/-
  What the type switch over a header's form sees.
-/
import Derived.Test.YtmncpjikijbalaaBase
import Derived.Carry
namespace Go.Proofs.Ytmncpjikijbalaa
open Go.ChangeShapes Go.WideShapes Go.ChangeAt Go.RowKit
set_option linter.unusedVariables false

theorem ta_00 (w : World) : (Instr.typeAssert (.iface 75 (.agg #[])) 60 75 true).run Try.prog w = .ok (.tuple #[.agg #[], .bool true]) w := by kernel_rfl
theorem ta_01 (w : World) : (Instr.typeAssert (.iface 75 (.agg #[])) 60 77 true).run Try.prog w = .ok (.tuple #[.agg #[.int .i64 0], .bool false]) w := by kernel_rfl
theorem ta_02 (w : World) : (Instr.typeAssert (.iface 75 (.agg #[])) 60 78 true).run Try.prog w = .ok (.tuple #[.agg #[], .bool false]) w := by kernel_rfl
theorem ta_03 (w : World) : (Instr.typeAssert (.iface 75 (.agg #[])) 60 79 true).run Try.prog w = .ok (.tuple #[.agg #[], .bool false]) w := by kernel_rfl
theorem ta_04 (w : World) : (Instr.typeAssert (.iface 75 (.agg #[])) 60 80 true).run Try.prog w = .ok (.tuple #[.agg #[], .bool false]) w := by kernel_rfl
theorem ta_10 (w : World) : (Instr.typeAssert (.iface 77 (.agg #[.int .i64 1])) 60 75 true).run Try.prog w = .ok (.tuple #[.agg #[], .bool false]) w := by kernel_rfl
theorem ta_11 (w : World) : (Instr.typeAssert (.iface 77 (.agg #[.int .i64 1])) 60 77 true).run Try.prog w = .ok (.tuple #[.agg #[.int .i64 1], .bool true]) w := by kernel_rfl
theorem ta_12 (w : World) : (Instr.typeAssert (.iface 77 (.agg #[.int .i64 1])) 60 78 true).run Try.prog w = .ok (.tuple #[.agg #[], .bool false]) w := by kernel_rfl
theorem ta_13 (w : World) : (Instr.typeAssert (.iface 77 (.agg #[.int .i64 1])) 60 79 true).run Try.prog w = .ok (.tuple #[.agg #[], .bool false]) w := by kernel_rfl
theorem ta_14 (w : World) : (Instr.typeAssert (.iface 77 (.agg #[.int .i64 1])) 60 80 true).run Try.prog w = .ok (.tuple #[.agg #[], .bool false]) w := by kernel_rfl
theorem ta_20 (w : World) : (Instr.typeAssert (.iface 77 (.agg #[.int .i64 2])) 60 75 true).run Try.prog w = .ok (.tuple #[.agg #[], .bool false]) w := by kernel_rfl
theorem ta_21 (w : World) : (Instr.typeAssert (.iface 77 (.agg #[.int .i64 2])) 60 77 true).run Try.prog w = .ok (.tuple #[.agg #[.int .i64 2], .bool true]) w := by kernel_rfl
theorem ta_22 (w : World) : (Instr.typeAssert (.iface 77 (.agg #[.int .i64 2])) 60 78 true).run Try.prog w = .ok (.tuple #[.agg #[], .bool false]) w := by kernel_rfl
theorem ta_23 (w : World) : (Instr.typeAssert (.iface 77 (.agg #[.int .i64 2])) 60 79 true).run Try.prog w = .ok (.tuple #[.agg #[], .bool false]) w := by kernel_rfl
theorem ta_24 (w : World) : (Instr.typeAssert (.iface 77 (.agg #[.int .i64 2])) 60 80 true).run Try.prog w = .ok (.tuple #[.agg #[], .bool false]) w := by kernel_rfl
theorem ta_30 (w : World) : (Instr.typeAssert (.iface 78 (.agg #[])) 60 75 true).run Try.prog w = .ok (.tuple #[.agg #[], .bool false]) w := by kernel_rfl
theorem ta_31 (w : World) : (Instr.typeAssert (.iface 78 (.agg #[])) 60 77 true).run Try.prog w = .ok (.tuple #[.agg #[.int .i64 0], .bool false]) w := by kernel_rfl
theorem ta_32 (w : World) : (Instr.typeAssert (.iface 78 (.agg #[])) 60 78 true).run Try.prog w = .ok (.tuple #[.agg #[], .bool true]) w := by kernel_rfl
theorem ta_33 (w : World) : (Instr.typeAssert (.iface 78 (.agg #[])) 60 79 true).run Try.prog w = .ok (.tuple #[.agg #[], .bool false]) w := by kernel_rfl
theorem ta_34 (w : World) : (Instr.typeAssert (.iface 78 (.agg #[])) 60 80 true).run Try.prog w = .ok (.tuple #[.agg #[], .bool false]) w := by kernel_rfl
theorem ta_40 (w : World) : (Instr.typeAssert (.iface 79 (.agg #[])) 60 75 true).run Try.prog w = .ok (.tuple #[.agg #[], .bool false]) w := by kernel_rfl
theorem ta_41 (w : World) : (Instr.typeAssert (.iface 79 (.agg #[])) 60 77 true).run Try.prog w = .ok (.tuple #[.agg #[.int .i64 0], .bool false]) w := by kernel_rfl
theorem ta_42 (w : World) : (Instr.typeAssert (.iface 79 (.agg #[])) 60 78 true).run Try.prog w = .ok (.tuple #[.agg #[], .bool false]) w := by kernel_rfl
theorem ta_43 (w : World) : (Instr.typeAssert (.iface 79 (.agg #[])) 60 79 true).run Try.prog w = .ok (.tuple #[.agg #[], .bool true]) w := by kernel_rfl
theorem ta_44 (w : World) : (Instr.typeAssert (.iface 79 (.agg #[])) 60 80 true).run Try.prog w = .ok (.tuple #[.agg #[], .bool false]) w := by kernel_rfl
theorem ta_50 (w : World) : (Instr.typeAssert (.iface 80 (.agg #[])) 60 75 true).run Try.prog w = .ok (.tuple #[.agg #[], .bool false]) w := by kernel_rfl
theorem ta_51 (w : World) : (Instr.typeAssert (.iface 80 (.agg #[])) 60 77 true).run Try.prog w = .ok (.tuple #[.agg #[.int .i64 0], .bool false]) w := by kernel_rfl
theorem ta_52 (w : World) : (Instr.typeAssert (.iface 80 (.agg #[])) 60 78 true).run Try.prog w = .ok (.tuple #[.agg #[], .bool false]) w := by kernel_rfl
theorem ta_53 (w : World) : (Instr.typeAssert (.iface 80 (.agg #[])) 60 79 true).run Try.prog w = .ok (.tuple #[.agg #[], .bool false]) w := by kernel_rfl
theorem ta_54 (w : World) : (Instr.typeAssert (.iface 80 (.agg #[])) 60 80 true).run Try.prog w = .ok (.tuple #[.agg #[], .bool true]) w := by kernel_rfl
end Go.Proofs.Ytmncpjikijbalaa
