/-
  Contracts: the laws' own copies of headers, and how they are held against each other.
-/
import Derived.Test.YtbabipaipbjlbaaInts
namespace Go.Proofs.Ytbabipaipbjlbaa
open Go.ChangeShapes Go.WideShapes Go.ChangeAt Go.RowKit
set_option linter.unusedVariables false
set_option maxRecDepth 100000

/-- a header, as a value -/
abbrev hv (f bi ve : Int) (d s t p : ByteArray) (ra : Option Addr) (n cap : Nat) : Value := .agg #[.int .i64 f, .int .i64 bi, .int .i64 ve, .string d, .string s, .string t, .string p, .slice ra n cap]

end Go.Proofs.Ytbabipaipbjlbaa
