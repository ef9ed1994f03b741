/-
  impl.Outflow: the laws' copies of it, what it weighs, how it is held against another.
-/
import Derived.Test.YtagnkelpdgpigaaRcs
import Derived.Deep.QuietTactic
import Derived.Deep.RegionWith
import Derived.BigQuiet
namespace Go.Proofs.Ytagnkelpdgpigaa.Rc
open Go.ChangeShapes Go.WideShapes Go.ChangeAt Go.RowKit Go.Deep
set_option linter.unusedVariables false
set_option maxRecDepth 100000

/-- what goes out: limit, sent, data, ended -/
structure OutflowD where
  f0 : Int
  f1 : Int
  f2 : ByteArray
  f3 : Bool
abbrev outflowC (D : OutflowD) : List Value := [.int .i64 D.f0, .int .i64 D.f1, .string D.f2, .bool D.f3]
abbrev outflowV (D : OutflowD) : Value := .agg #[.int .i64 D.f0, .int .i64 D.f1, .string D.f2, .bool D.f3]
end Go.Proofs.Ytagnkelpdgpigaa.Rc
