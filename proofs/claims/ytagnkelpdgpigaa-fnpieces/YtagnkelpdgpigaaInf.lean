/-
  impl.Inflow: the laws' copies of it, what it weighs, how it is held against another, marked.
-/
import Derived.Test.YtagnkelpdgpigaaRcPiece
import Derived.Deep.DeepCutAuto
namespace Go.Proofs.Ytagnkelpdgpigaa.Rc
open Go.ChangeShapes Go.WideShapes Go.ChangeAt Go.RowKit Go.Deep
set_option linter.unusedVariables false
set_option maxRecDepth 100000

structure InflowD where
  li : Int
  re : Int
  fi : Int
  P : List PieceD
/-- its cells -/
abbrev inflowC (D : InflowD) (a : Option Addr) (c : Nat) : List Value := [.int .i64 D.li, .int .i64 D.re, .int .i64 D.fi, .slice a D.P.length c]
/-- as a value -/
abbrev inflowV (D : InflowD) (a : Option Addr) (c : Nat) : Value := .agg #[.int .i64 D.li, .int .i64 D.re, .int .i64 D.fi, .slice a D.P.length c]
/-- it lies there, to be read -/
abbrev RdInflow (W : World) (a : Option Addr) (D : InflowD) : Prop := Rd pieceK W a D.P
abbrev inflowZ : List Value := [.int .i64 0, .int .i64 0, .int .i64 0, .slice none 0 0]
end Go.Proofs.Ytagnkelpdgpigaa.Rc
