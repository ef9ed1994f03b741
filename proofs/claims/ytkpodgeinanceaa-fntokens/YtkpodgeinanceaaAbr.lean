/-
  Contracts: the program's RoundKeys.
-/
import Derived.Test.YtkpodgeinanceaaAbn
import Derived.Test.YtkpodgeinanceaaOwn
namespace Go.Proofs.Ytkpodgeinanceaa
open Go.ChangeShapes Go.WideShapes Go.ChangeAt Go.RowKit
set_option linter.unusedVariables false

theorem info_rows : (Try.prog.info? 126).map (·.size) = some 176 := by kernel_rfl
theorem info_u8i : ∃ i, Try.prog.info? 5 = some i ∧ i.zero = some (.int .u8 0) ∧ i.size = 1 ∧ i.bytes = 1 := info_parts info_u8
theorem ck_lt (f : Nat → Nat) (hf : ∀ i, f i < 256) (i : Nat) (h : i < 176) : ck f 10 i < 256 := by
  unfold ck
  rw [if_pos (by omega)]
  exact rk_lt f hf _ _


end Go.Proofs.Ytkpodgeinanceaa
