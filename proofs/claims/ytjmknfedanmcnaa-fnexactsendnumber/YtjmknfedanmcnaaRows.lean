/-
  No cell of these rows narrows 'for every input' (looked for: loops, veiled, ifaces, maps, wideKeys, modest, calm, conditions, laid).
  DERIVED. THE GIVEN ROWS OF THIS SEAT. 6 by the template 'for every input the law returns true; each argument reads behind the call as it read before'; 0 by the template 'total and deterministic' (their statements: YtjmknfedanmcnaaTotals.lean).
  GIVEN WITH THE SEED: the statements are not yours to turn. If you find one false, say at which input.
  Laid BY PROGRAM, IN A SANDBOX (cutbox-rows.mjs): the forced cells as the released guide's own fill.sh prints them over the translation 7895e018229bc24c… (all of the seat's roots in one cut). By AI agents, Wed Nov 11 2026. No macro, syntax, notation, axiom, sorry.
-/
import Derived.Test.YtjmknfedanmcnaaChecked
import GoSem.Claim
import GoSem.ClaimJoined
import GoSem.ClaimMapViews
import Derived.JoinedTies
import Derived.KernelRfl
namespace Go.Proofs.Ytjmknfedanmcnaa
/- THE CELL 'sum', in the pinned program and in every row, IS THE sha256 OF THE DUMP (.gsa) THAT YtjmknfedanmcnaaProg.lean LOADS. Nothing in Lean hashes anything: it is a label: what it is worth is what the hold of that sum in a sandbox is worth. -/
noncomputable def Try.pinned : Pinned := { name := "ytjmknfedanmcnaa", sum := "7895e018229bc24c5cbf6f88d66e782f7ee8972c656a8b68ff6c40141e570582", checked := Try.checked }
namespace Rows
def none {H : Type} : Left H := { results := [], args := [] }

/-- 'laws.FnExactGoodRanges': WHATEVER THE INPUT: true; the input reads as it did. -/
def fnExactGoodRangesSpec : ChangeSpec := { name := "fnExactGoodRanges", fn := fun _ => fun
  | [d] => { results := [.lit (.bool true)], args := [d] }
  | _ => none }
def fnExactGoodRangesRow : OpenClaim := { program := "ytjmknfedanmcnaa", sum := "7895e018229bc24c5cbf6f88d66e782f7ee8972c656a8b68ff6c40141e570582", func := "loop.example/g00206/laws.FnExactGoodRanges", spec := "fnExactGoodRanges", apart := false }
def FnExactGoodRangesSaid : Prop := fnExactGoodRangesRow.holds Try.pinned (OpenSpec.ofChange fnExactGoodRangesSpec)

/-- ITS FALSE NEIGHBOUR: 'it returns false'. Refute it at one input. -/
def fnExactGoodRangesWrong : ChangeSpec := { name := "fnExactGoodRanges", fn := fun _ => fun
  | [d] => { results := [.lit (.bool false)], args := [d] }
  | _ => none }
def FnExactGoodRangesWrongFalsely : Prop := fnExactGoodRangesRow.holds Try.pinned (OpenSpec.ofChange fnExactGoodRangesWrong)

/-- 'laws.FnExactPutNumber': WHATEVER THE INPUT: true; the input reads as it did. -/
def fnExactPutNumberSpec : ChangeSpec := { name := "fnExactPutNumber", fn := fun _ => fun
  | [d1, d2] => { results := [.lit (.bool true)], args := [d1, d2] }
  | _ => none }
def fnExactPutNumberRow : OpenClaim := { program := "ytjmknfedanmcnaa", sum := "7895e018229bc24c5cbf6f88d66e782f7ee8972c656a8b68ff6c40141e570582", func := "loop.example/g00206/laws.FnExactPutNumber", spec := "fnExactPutNumber", apart := false }
def FnExactPutNumberSaid : Prop := fnExactPutNumberRow.holds Try.pinned (OpenSpec.ofChange fnExactPutNumberSpec)

/-- ITS FALSE NEIGHBOUR: 'it returns false'. Refute it at one input. -/
def fnExactPutNumberWrong : ChangeSpec := { name := "fnExactPutNumber", fn := fun _ => fun
  | [d1, d2] => { results := [.lit (.bool false)], args := [d1, d2] }
  | _ => none }
def FnExactPutNumberWrongFalsely : Prop := fnExactPutNumberRow.holds Try.pinned (OpenSpec.ofChange fnExactPutNumberWrong)

/-- 'laws.FnExactJoinRanges': WHATEVER THE INPUT: true; the input reads as it did. -/
def fnExactJoinRangesSpec : ChangeSpec := { name := "fnExactJoinRanges", fn := fun _ => fun
  | [d1, d2] => { results := [.lit (.bool true)], args := [d1, d2] }
  | _ => none }
def fnExactJoinRangesRow : OpenClaim := { program := "ytjmknfedanmcnaa", sum := "7895e018229bc24c5cbf6f88d66e782f7ee8972c656a8b68ff6c40141e570582", func := "loop.example/g00206/laws.FnExactJoinRanges", spec := "fnExactJoinRanges", apart := false }
def FnExactJoinRangesSaid : Prop := fnExactJoinRangesRow.holds Try.pinned (OpenSpec.ofChange fnExactJoinRangesSpec)

/-- ITS FALSE NEIGHBOUR: 'it returns false'. Refute it at one input. -/
def fnExactJoinRangesWrong : ChangeSpec := { name := "fnExactJoinRanges", fn := fun _ => fun
  | [d1, d2] => { results := [.lit (.bool false)], args := [d1, d2] }
  | _ => none }
def FnExactJoinRangesWrongFalsely : Prop := fnExactJoinRangesRow.holds Try.pinned (OpenSpec.ofChange fnExactJoinRangesWrong)

/-- 'laws.FnExactSampleRtt': WHATEVER THE INPUT: true; the input reads as it did. -/
def fnExactSampleRttSpec : ChangeSpec := { name := "fnExactSampleRtt", fn := fun _ => fun
  | [d1, d2, d3] => { results := [.lit (.bool true)], args := [d1, d2, d3] }
  | _ => none }
def fnExactSampleRttRow : OpenClaim := { program := "ytjmknfedanmcnaa", sum := "7895e018229bc24c5cbf6f88d66e782f7ee8972c656a8b68ff6c40141e570582", func := "loop.example/g00206/laws.FnExactSampleRtt", spec := "fnExactSampleRtt", apart := false }
def FnExactSampleRttSaid : Prop := fnExactSampleRttRow.holds Try.pinned (OpenSpec.ofChange fnExactSampleRttSpec)

/-- ITS FALSE NEIGHBOUR: 'it returns false'. Refute it at one input. -/
def fnExactSampleRttWrong : ChangeSpec := { name := "fnExactSampleRtt", fn := fun _ => fun
  | [d1, d2, d3] => { results := [.lit (.bool false)], args := [d1, d2, d3] }
  | _ => none }
def FnExactSampleRttWrongFalsely : Prop := fnExactSampleRttRow.holds Try.pinned (OpenSpec.ofChange fnExactSampleRttWrong)

/-- 'laws.FnExactGoodSpace': WHATEVER THE INPUT: true; the input reads as it did. -/
def fnExactGoodSpaceSpec : ChangeSpec := { name := "fnExactGoodSpace", fn := fun _ => fun
  | [d] => { results := [.lit (.bool true)], args := [d] }
  | _ => none }
def fnExactGoodSpaceRow : OpenClaim := { program := "ytjmknfedanmcnaa", sum := "7895e018229bc24c5cbf6f88d66e782f7ee8972c656a8b68ff6c40141e570582", func := "loop.example/g00206/laws.FnExactGoodSpace", spec := "fnExactGoodSpace", apart := false }
def FnExactGoodSpaceSaid : Prop := fnExactGoodSpaceRow.holds Try.pinned (OpenSpec.ofChange fnExactGoodSpaceSpec)

/-- ITS FALSE NEIGHBOUR: 'it returns false'. Refute it at one input. -/
def fnExactGoodSpaceWrong : ChangeSpec := { name := "fnExactGoodSpace", fn := fun _ => fun
  | [d] => { results := [.lit (.bool false)], args := [d] }
  | _ => none }
def FnExactGoodSpaceWrongFalsely : Prop := fnExactGoodSpaceRow.holds Try.pinned (OpenSpec.ofChange fnExactGoodSpaceWrong)

/-- 'laws.FnExactSendNumber': WHATEVER THE INPUT: true; the input reads as it did. -/
def fnExactSendNumberSpec : ChangeSpec := { name := "fnExactSendNumber", fn := fun _ => fun
  | [d1, d2] => { results := [.lit (.bool true)], args := [d1, d2] }
  | _ => none }
def fnExactSendNumberRow : OpenClaim := { program := "ytjmknfedanmcnaa", sum := "7895e018229bc24c5cbf6f88d66e782f7ee8972c656a8b68ff6c40141e570582", func := "loop.example/g00206/laws.FnExactSendNumber", spec := "fnExactSendNumber", apart := false }
def FnExactSendNumberSaid : Prop := fnExactSendNumberRow.holds Try.pinned (OpenSpec.ofChange fnExactSendNumberSpec)

/-- ITS FALSE NEIGHBOUR: 'it returns false'. Refute it at one input. -/
def fnExactSendNumberWrong : ChangeSpec := { name := "fnExactSendNumber", fn := fun _ => fun
  | [d1, d2] => { results := [.lit (.bool false)], args := [d1, d2] }
  | _ => none }
def FnExactSendNumberWrongFalsely : Prop := fnExactSendNumberRow.holds Try.pinned (OpenSpec.ofChange fnExactSendNumberWrong)

/- THE SECOND FORM. 'bulk': how many values and letters a reading holds, each counted each time it is reached (what is shared counts as often as it is met; a slice's spare places count too). A statement '..UptoSaid' is the law's where the arguments, and the package variables that the reading takes, are together of bulk at most 1048576: NARROWER than '..Said'. Prove '..Said' where nothing that the law and all that it calls make is longer than what came in: it says more and counts as full. Else prove '..UptoSaid'. A law counts once. -/
mutual
def uptoBulk {H : Type} : DataW H → Nat
  | .lit (.string bytes) => bytes.length + 1
  | .lit _ => 1
  | .nil => 1
  | .ptr d => uptoBulk d + 1
  | .slice elems spare => uptoBulkAll elems + uptoBulkAll spare + 1
  | .agg parts => uptoBulkAll parts + 1
  | .iface _ d => uptoBulk d + 1
  | .map entries => uptoBulkEntries entries + 1
  | .held _ => 1
def uptoBulkAll {H : Type} : List (DataW H) → Nat
  | [] => 0
  | d :: r => uptoBulk d + uptoBulkAll r
def uptoBulkEntries {H : Type} : List (Lit × DataW H) → Nat
  | [] => 0
  | x :: r => uptoBulkEntry x + uptoBulkEntries r
def uptoBulkEntry {H : Type} : Lit × DataW H → Nat
  | (.string bytes, d) => bytes.length + uptoBulk d + 1
  | (_, d) => uptoBulk d + 1
 end
def uptoSmall : (H : Type) → List (DataW H) → Bool := fun _ ds => decide (uptoBulkAll ds ≤ 1048576)
def OpenSpec.upto (s : _root_.Go.ChangeSpec) : _root_.Go.OpenSpec := { _root_.Go.OpenSpec.ofChange s with cond := some uptoSmall }

/-- 'laws.FnExactGoodRanges', WHERE WHAT IT READS IS OF BULK AT MOST 1048576: true; the input reads as it did. -/
def fnExactGoodRangesUptoRow : OpenClaim := { program := "ytjmknfedanmcnaa", sum := "7895e018229bc24c5cbf6f88d66e782f7ee8972c656a8b68ff6c40141e570582", func := "loop.example/g00206/laws.FnExactGoodRanges", spec := "fnExactGoodRanges", apart := false, narrowed := true }
def FnExactGoodRangesUptoSaid : Prop := fnExactGoodRangesUptoRow.holds Try.pinned (OpenSpec.upto fnExactGoodRangesSpec)

/-- 'laws.FnExactPutNumber', WHERE WHAT IT READS IS OF BULK AT MOST 1048576: true; the input reads as it did. -/
def fnExactPutNumberUptoRow : OpenClaim := { program := "ytjmknfedanmcnaa", sum := "7895e018229bc24c5cbf6f88d66e782f7ee8972c656a8b68ff6c40141e570582", func := "loop.example/g00206/laws.FnExactPutNumber", spec := "fnExactPutNumber", apart := false, narrowed := true }
def FnExactPutNumberUptoSaid : Prop := fnExactPutNumberUptoRow.holds Try.pinned (OpenSpec.upto fnExactPutNumberSpec)

/-- 'laws.FnExactJoinRanges', WHERE WHAT IT READS IS OF BULK AT MOST 1048576: true; the input reads as it did. -/
def fnExactJoinRangesUptoRow : OpenClaim := { program := "ytjmknfedanmcnaa", sum := "7895e018229bc24c5cbf6f88d66e782f7ee8972c656a8b68ff6c40141e570582", func := "loop.example/g00206/laws.FnExactJoinRanges", spec := "fnExactJoinRanges", apart := false, narrowed := true }
def FnExactJoinRangesUptoSaid : Prop := fnExactJoinRangesUptoRow.holds Try.pinned (OpenSpec.upto fnExactJoinRangesSpec)

/-- 'laws.FnExactSampleRtt', WHERE WHAT IT READS IS OF BULK AT MOST 1048576: true; the input reads as it did. -/
def fnExactSampleRttUptoRow : OpenClaim := { program := "ytjmknfedanmcnaa", sum := "7895e018229bc24c5cbf6f88d66e782f7ee8972c656a8b68ff6c40141e570582", func := "loop.example/g00206/laws.FnExactSampleRtt", spec := "fnExactSampleRtt", apart := false, narrowed := true }
def FnExactSampleRttUptoSaid : Prop := fnExactSampleRttUptoRow.holds Try.pinned (OpenSpec.upto fnExactSampleRttSpec)

/-- 'laws.FnExactGoodSpace', WHERE WHAT IT READS IS OF BULK AT MOST 1048576: true; the input reads as it did. -/
def fnExactGoodSpaceUptoRow : OpenClaim := { program := "ytjmknfedanmcnaa", sum := "7895e018229bc24c5cbf6f88d66e782f7ee8972c656a8b68ff6c40141e570582", func := "loop.example/g00206/laws.FnExactGoodSpace", spec := "fnExactGoodSpace", apart := false, narrowed := true }
def FnExactGoodSpaceUptoSaid : Prop := fnExactGoodSpaceUptoRow.holds Try.pinned (OpenSpec.upto fnExactGoodSpaceSpec)

/-- 'laws.FnExactSendNumber', WHERE WHAT IT READS IS OF BULK AT MOST 1048576: true; the input reads as it did. -/
def fnExactSendNumberUptoRow : OpenClaim := { program := "ytjmknfedanmcnaa", sum := "7895e018229bc24c5cbf6f88d66e782f7ee8972c656a8b68ff6c40141e570582", func := "loop.example/g00206/laws.FnExactSendNumber", spec := "fnExactSendNumber", apart := false, narrowed := true }
def FnExactSendNumberUptoSaid : Prop := fnExactSendNumberUptoRow.holds Try.pinned (OpenSpec.upto fnExactSendNumberSpec)

end Rows
end Go.Proofs.Ytjmknfedanmcnaa
