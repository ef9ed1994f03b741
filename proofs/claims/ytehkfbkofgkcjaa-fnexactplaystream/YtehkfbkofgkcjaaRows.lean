/-
  No cell of these rows narrows 'for every input' (looked for: loops, veiled, ifaces, maps, wideKeys, modest, calm, conditions, laid).
  DERIVED. THE GIVEN ROWS OF THIS SEAT. 6 by the template 'for every input the law returns true; each argument reads behind the call as it read before'; 0 by the template 'total and deterministic' (their statements: YtehkfbkofgkcjaaTotals.lean).
  GIVEN WITH THE SEED: the statements are not yours to turn. If you find one false, say at which input.
  Laid BY PROGRAM, IN A SANDBOX (cutbox-rows.mjs): the forced cells as the released guide's own fill.sh prints them over the translation 459af9676eced2ff… (all of the seat's roots in one cut). By AI agents, Wed Nov 11 2026. No macro, syntax, notation, axiom, sorry.
-/
import Derived.Test.YtehkfbkofgkcjaaChecked
import GoSem.Claim
import GoSem.ClaimJoined
import GoSem.ClaimMapViews
import Derived.JoinedTies
import Derived.KernelRfl
namespace Go.Proofs.Ytehkfbkofgkcjaa
/- THE CELL 'sum', in the pinned program and in every row, IS THE sha256 OF THE DUMP (.gsa) THAT YtehkfbkofgkcjaaProg.lean LOADS. Nothing in Lean hashes anything: it is a label: what it is worth is what the hold of that sum in a sandbox is worth. -/
noncomputable def Try.pinned : Pinned := { name := "ytehkfbkofgkcjaa", sum := "459af9676eced2ff7646c59620bd674e4d616bc1de4a0629774c5357cd557bcf", checked := Try.checked }
namespace Rows
def none {H : Type} : Left H := { results := [], args := [] }

/-- 'laws.FnExactNewInflow': WHATEVER THE INPUT: true; the input reads as it did. -/
def fnExactNewInflowSpec : ChangeSpec := { name := "fnExactNewInflow", fn := fun _ => fun
  | [d] => { results := [.lit (.bool true)], args := [d] }
  | _ => none }
def fnExactNewInflowRow : OpenClaim := { program := "ytehkfbkofgkcjaa", sum := "459af9676eced2ff7646c59620bd674e4d616bc1de4a0629774c5357cd557bcf", func := "loop.example/g00206/laws.FnExactNewInflow", spec := "fnExactNewInflow", apart := false }
def FnExactNewInflowSaid : Prop := fnExactNewInflowRow.holds Try.pinned (OpenSpec.ofChange fnExactNewInflowSpec)

/-- ITS FALSE NEIGHBOUR: 'it returns false'. Refute it at one input. -/
def fnExactNewInflowWrong : ChangeSpec := { name := "fnExactNewInflow", fn := fun _ => fun
  | [d] => { results := [.lit (.bool false)], args := [d] }
  | _ => none }
def FnExactNewInflowWrongFalsely : Prop := fnExactNewInflowRow.holds Try.pinned (OpenSpec.ofChange fnExactNewInflowWrong)

/-- 'laws.FnExactGoodOutflow': WHATEVER THE INPUT: true; the input reads as it did. -/
def fnExactGoodOutflowSpec : ChangeSpec := { name := "fnExactGoodOutflow", fn := fun _ => fun
  | [d] => { results := [.lit (.bool true)], args := [d] }
  | _ => none }
def fnExactGoodOutflowRow : OpenClaim := { program := "ytehkfbkofgkcjaa", sum := "459af9676eced2ff7646c59620bd674e4d616bc1de4a0629774c5357cd557bcf", func := "loop.example/g00206/laws.FnExactGoodOutflow", spec := "fnExactGoodOutflow", apart := false }
def FnExactGoodOutflowSaid : Prop := fnExactGoodOutflowRow.holds Try.pinned (OpenSpec.ofChange fnExactGoodOutflowSpec)

/-- ITS FALSE NEIGHBOUR: 'it returns false'. Refute it at one input. -/
def fnExactGoodOutflowWrong : ChangeSpec := { name := "fnExactGoodOutflow", fn := fun _ => fun
  | [d] => { results := [.lit (.bool false)], args := [d] }
  | _ => none }
def FnExactGoodOutflowWrongFalsely : Prop := fnExactGoodOutflowRow.holds Try.pinned (OpenSpec.ofChange fnExactGoodOutflowWrong)

/-- 'laws.FnExactNextPiece': WHATEVER THE INPUT: true; the input reads as it did. -/
def fnExactNextPieceSpec : ChangeSpec := { name := "fnExactNextPiece", fn := fun _ => fun
  | [d1, d2] => { results := [.lit (.bool true)], args := [d1, d2] }
  | _ => none }
def fnExactNextPieceRow : OpenClaim := { program := "ytehkfbkofgkcjaa", sum := "459af9676eced2ff7646c59620bd674e4d616bc1de4a0629774c5357cd557bcf", func := "loop.example/g00206/laws.FnExactNextPiece", spec := "fnExactNextPiece", apart := false }
def FnExactNextPieceSaid : Prop := fnExactNextPieceRow.holds Try.pinned (OpenSpec.ofChange fnExactNextPieceSpec)

/-- ITS FALSE NEIGHBOUR: 'it returns false'. Refute it at one input. -/
def fnExactNextPieceWrong : ChangeSpec := { name := "fnExactNextPiece", fn := fun _ => fun
  | [d1, d2] => { results := [.lit (.bool false)], args := [d1, d2] }
  | _ => none }
def FnExactNextPieceWrongFalsely : Prop := fnExactNextPieceRow.holds Try.pinned (OpenSpec.ofChange fnExactNextPieceWrong)

/-- 'laws.FnExactPlayStream': WHATEVER THE INPUT: true; the input reads as it did. -/
def fnExactPlayStreamSpec : ChangeSpec := { name := "fnExactPlayStream", fn := fun _ => fun
  | [d1, d2, d3, d4] => { results := [.lit (.bool true)], args := [d1, d2, d3, d4] }
  | _ => none }
def fnExactPlayStreamRow : OpenClaim := { program := "ytehkfbkofgkcjaa", sum := "459af9676eced2ff7646c59620bd674e4d616bc1de4a0629774c5357cd557bcf", func := "loop.example/g00206/laws.FnExactPlayStream", spec := "fnExactPlayStream", unfollowed := true, recurses := true, apart := false }
def FnExactPlayStreamSaid : Prop := fnExactPlayStreamRow.holds Try.pinned (OpenSpec.ofChange fnExactPlayStreamSpec)

/-- ITS FALSE NEIGHBOUR: 'it returns false'. Refute it at one input. -/
def fnExactPlayStreamWrong : ChangeSpec := { name := "fnExactPlayStream", fn := fun _ => fun
  | [d1, d2, d3, d4] => { results := [.lit (.bool false)], args := [d1, d2, d3, d4] }
  | _ => none }
def FnExactPlayStreamWrongFalsely : Prop := fnExactPlayStreamRow.holds Try.pinned (OpenSpec.ofChange fnExactPlayStreamWrong)

/-- 'laws.FnOrdered': WHATEVER THE INPUT: true; the input reads as it did. -/
def fnOrderedSpec : ChangeSpec := { name := "fnOrdered", fn := fun _ => fun
  | [d] => { results := [.lit (.bool true)], args := [d] }
  | _ => none }
def fnOrderedRow : OpenClaim := { program := "ytehkfbkofgkcjaa", sum := "459af9676eced2ff7646c59620bd674e4d616bc1de4a0629774c5357cd557bcf", func := "loop.example/g00206/laws.FnOrdered", spec := "fnOrdered", unfollowed := true, recurses := true, apart := false }
def FnOrderedSaid : Prop := fnOrderedRow.holds Try.pinned (OpenSpec.ofChange fnOrderedSpec)

/-- ITS FALSE NEIGHBOUR: 'it returns false'. Refute it at one input. -/
def fnOrderedWrong : ChangeSpec := { name := "fnOrdered", fn := fun _ => fun
  | [d] => { results := [.lit (.bool false)], args := [d] }
  | _ => none }
def FnOrderedWrongFalsely : Prop := fnOrderedRow.holds Try.pinned (OpenSpec.ofChange fnOrderedWrong)

/-- 'laws.FnBounded': WHATEVER THE INPUT: true; the input reads as it did. -/
def fnBoundedSpec : ChangeSpec := { name := "fnBounded", fn := fun _ => fun
  | [d1, d2] => { results := [.lit (.bool true)], args := [d1, d2] }
  | _ => none }
def fnBoundedRow : OpenClaim := { program := "ytehkfbkofgkcjaa", sum := "459af9676eced2ff7646c59620bd674e4d616bc1de4a0629774c5357cd557bcf", func := "loop.example/g00206/laws.FnBounded", spec := "fnBounded", unfollowed := true, recurses := true, apart := false }
def FnBoundedSaid : Prop := fnBoundedRow.holds Try.pinned (OpenSpec.ofChange fnBoundedSpec)

/-- ITS FALSE NEIGHBOUR: 'it returns false'. Refute it at one input. -/
def fnBoundedWrong : ChangeSpec := { name := "fnBounded", fn := fun _ => fun
  | [d1, d2] => { results := [.lit (.bool false)], args := [d1, d2] }
  | _ => none }
def FnBoundedWrongFalsely : Prop := fnBoundedRow.holds Try.pinned (OpenSpec.ofChange fnBoundedWrong)

/- THE SECOND FORM. 'bulk': how many values and letters a reading holds, each counted each time it is reached (what is shared counts as often as it is met; a slice's spare places count too). A statement '..UptoSaid' is the law's where the arguments, and the package variables that the reading takes, are together of bulk at most 1048576: NARROWER than '..Said'. Prove '..Said' where nothing that the law and all that it calls make is longer than what came in: it says more and counts as full. Else prove '..UptoSaid'. A law counts once. -/
mutual
def uptoBulk {H : Type} : DataW H → Nat
  | .lit (.string bytes) => bytes.length + 1
  | .lit _ => 1
  | .nil => 1
  | .ptr d => uptoBulk d + 1
  | .slice elems spare => uptoBulkAll elems + uptoBulkAll spare + 1
  | .agg parts => uptoBulkAll parts + 1
  | .iface _ d => uptoBulk d + 1
  | .map entries => uptoBulkEntries entries + 1
  | .held _ => 1
def uptoBulkAll {H : Type} : List (DataW H) → Nat
  | [] => 0
  | d :: r => uptoBulk d + uptoBulkAll r
def uptoBulkEntries {H : Type} : List (Lit × DataW H) → Nat
  | [] => 0
  | x :: r => uptoBulkEntry x + uptoBulkEntries r
def uptoBulkEntry {H : Type} : Lit × DataW H → Nat
  | (.string bytes, d) => bytes.length + uptoBulk d + 1
  | (_, d) => uptoBulk d + 1
 end
def uptoSmall : (H : Type) → List (DataW H) → Bool := fun _ ds => decide (uptoBulkAll ds ≤ 1048576)
def OpenSpec.upto (s : _root_.Go.ChangeSpec) : _root_.Go.OpenSpec := { _root_.Go.OpenSpec.ofChange s with cond := some uptoSmall }

/-- 'laws.FnExactNewInflow', WHERE WHAT IT READS IS OF BULK AT MOST 1048576: true; the input reads as it did. -/
def fnExactNewInflowUptoRow : OpenClaim := { program := "ytehkfbkofgkcjaa", sum := "459af9676eced2ff7646c59620bd674e4d616bc1de4a0629774c5357cd557bcf", func := "loop.example/g00206/laws.FnExactNewInflow", spec := "fnExactNewInflow", apart := false, narrowed := true }
def FnExactNewInflowUptoSaid : Prop := fnExactNewInflowUptoRow.holds Try.pinned (OpenSpec.upto fnExactNewInflowSpec)

/-- 'laws.FnExactGoodOutflow', WHERE WHAT IT READS IS OF BULK AT MOST 1048576: true; the input reads as it did. -/
def fnExactGoodOutflowUptoRow : OpenClaim := { program := "ytehkfbkofgkcjaa", sum := "459af9676eced2ff7646c59620bd674e4d616bc1de4a0629774c5357cd557bcf", func := "loop.example/g00206/laws.FnExactGoodOutflow", spec := "fnExactGoodOutflow", apart := false, narrowed := true }
def FnExactGoodOutflowUptoSaid : Prop := fnExactGoodOutflowUptoRow.holds Try.pinned (OpenSpec.upto fnExactGoodOutflowSpec)

/-- 'laws.FnExactNextPiece', WHERE WHAT IT READS IS OF BULK AT MOST 1048576: true; the input reads as it did. -/
def fnExactNextPieceUptoRow : OpenClaim := { program := "ytehkfbkofgkcjaa", sum := "459af9676eced2ff7646c59620bd674e4d616bc1de4a0629774c5357cd557bcf", func := "loop.example/g00206/laws.FnExactNextPiece", spec := "fnExactNextPiece", apart := false, narrowed := true }
def FnExactNextPieceUptoSaid : Prop := fnExactNextPieceUptoRow.holds Try.pinned (OpenSpec.upto fnExactNextPieceSpec)

/-- 'laws.FnExactPlayStream', WHERE WHAT IT READS IS OF BULK AT MOST 1048576: true; the input reads as it did. -/
def fnExactPlayStreamUptoRow : OpenClaim := { program := "ytehkfbkofgkcjaa", sum := "459af9676eced2ff7646c59620bd674e4d616bc1de4a0629774c5357cd557bcf", func := "loop.example/g00206/laws.FnExactPlayStream", spec := "fnExactPlayStream", unfollowed := true, recurses := true, apart := false, narrowed := true }
def FnExactPlayStreamUptoSaid : Prop := fnExactPlayStreamUptoRow.holds Try.pinned (OpenSpec.upto fnExactPlayStreamSpec)

/-- 'laws.FnOrdered', WHERE WHAT IT READS IS OF BULK AT MOST 1048576: true; the input reads as it did. -/
def fnOrderedUptoRow : OpenClaim := { program := "ytehkfbkofgkcjaa", sum := "459af9676eced2ff7646c59620bd674e4d616bc1de4a0629774c5357cd557bcf", func := "loop.example/g00206/laws.FnOrdered", spec := "fnOrdered", unfollowed := true, recurses := true, apart := false, narrowed := true }
def FnOrderedUptoSaid : Prop := fnOrderedUptoRow.holds Try.pinned (OpenSpec.upto fnOrderedSpec)

/-- 'laws.FnBounded', WHERE WHAT IT READS IS OF BULK AT MOST 1048576: true; the input reads as it did. -/
def fnBoundedUptoRow : OpenClaim := { program := "ytehkfbkofgkcjaa", sum := "459af9676eced2ff7646c59620bd674e4d616bc1de4a0629774c5357cd557bcf", func := "loop.example/g00206/laws.FnBounded", spec := "fnBounded", unfollowed := true, recurses := true, apart := false, narrowed := true }
def FnBoundedUptoSaid : Prop := fnBoundedUptoRow.holds Try.pinned (OpenSpec.upto fnBoundedSpec)

end Rows
end Go.Proofs.Ytehkfbkofgkcjaa
