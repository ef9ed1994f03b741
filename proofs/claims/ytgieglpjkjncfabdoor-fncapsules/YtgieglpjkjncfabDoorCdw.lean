/-
  impl.Carried: the laws' copies of it, what it weighs, how it is held against another.
-/
import Derived.Test.YtgieglpjkjncfabDoorRcs
import Derived.Deep.QuietTactic
import Derived.Deep.RegionWith
import Derived.BigQuiet
namespace Go.Proofs.YtgieglpjkjncfabDoor.Rc
open Go.ChangeShapes Go.WideShapes Go.ChangeAt Go.RowKit Go.Deep
set_option linter.unusedVariables false
set_option maxRecDepth 100000

/-- what is carried: stream, context, data -/
structure CarriedD where
  f0 : Int
  f1 : Int
  f2 : ByteArray
abbrev carriedC (D : CarriedD) : List Value := [.int .i64 D.f0, .int .i64 D.f1, .string D.f2]
abbrev carriedV (D : CarriedD) : Value := .agg #[.int .i64 D.f0, .int .i64 D.f1, .string D.f2]
end Go.Proofs.YtgieglpjkjncfabDoor.Rc
