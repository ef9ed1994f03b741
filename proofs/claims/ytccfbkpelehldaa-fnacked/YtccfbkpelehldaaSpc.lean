/-
  Spaces: the laws' copies of them, what they weigh, how they are held against each other, marked.
-/
import Derived.Test.YtccfbkpelehldaaRts
import Derived.Test.YtccfbkpelehldaaRcSent
namespace Go.Proofs.Ytccfbkpelehldaa.Rc
open Go.ChangeShapes Go.WideShapes Go.ChangeAt Go.RowKit Go.Deep
set_option linter.unusedVariables false
set_option maxRecDepth 100000

/-- a space -/
structure SpaceD where
  lg : Int
  S : List SentD
  r : RttD
/-- its cells -/
abbrev spaceC (D : SpaceD) (a : Option Addr) (c : Nat) : List Value := [.int .i64 D.lg, .slice a D.S.length c, .bool D.r.kn, .int .i64 D.r.la, .int .i64 D.r.mi, .int .i64 D.r.sm, .int .i64 D.r.va]
/-- as a value -/
abbrev spaceV (D : SpaceD) (a : Option Addr) (c : Nat) : Value := .agg #[.int .i64 D.lg, .slice a D.S.length c, .bool D.r.kn, .int .i64 D.r.la, .int .i64 D.r.mi, .int .i64 D.r.sm, .int .i64 D.r.va]
/-- it lies there, to be read -/
abbrev RdSpace (W : World) (a : Option Addr) (D : SpaceD) : Prop := Rd sentK W a D.S
abbrev spaceZ : List Value := [.int .i64 0, .slice none 0 0, .bool false, .int .i64 0, .int .i64 0, .int .i64 0, .int .i64 0]
end Go.Proofs.Ytccfbkpelehldaa.Rc
