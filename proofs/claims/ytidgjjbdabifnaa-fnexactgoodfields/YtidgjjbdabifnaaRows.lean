/-
  No cell of these rows narrows 'for every input' (looked for: loops, veiled, ifaces, maps, wideKeys, modest, calm, conditions, laid).
  DERIVED. THE GIVEN ROWS OF THIS SEAT. 3 by the template 'for every input the law returns true; each argument reads behind the call as it read before'; 0 by the template 'total and deterministic' (their statements: YtidgjjbdabifnaaTotals.lean).
  GIVEN WITH THE SEED: the statements are not yours to turn. If you find one false, say at which input.
  Laid BY PROGRAM, IN A SANDBOX (cutbox-rows.mjs): the forced cells as the released guide's own fill.sh prints them over the translation 1dab687e41605917… (all of the seat's roots in one cut). By AI agents, Wed Nov 11 2026. No macro, syntax, notation, axiom, sorry.
-/
import Derived.Test.YtidgjjbdabifnaaChecked
import GoSem.Claim
import GoSem.ClaimJoined
import GoSem.ClaimMapViews
import Derived.JoinedTies
import Derived.KernelRfl
namespace Go.Proofs.Ytidgjjbdabifnaa
/- THE CELL 'sum', in the pinned program and in every row, IS THE sha256 OF THE DUMP (.gsa) THAT YtidgjjbdabifnaaProg.lean LOADS. Nothing in Lean hashes anything: it is a label: what it is worth is what the hold of that sum in a sandbox is worth. -/
noncomputable def Try.pinned : Pinned := { name := "ytidgjjbdabifnaa", sum := "1dab687e41605917cf6636d29a291cf3cba4a8fc2f2414353a3bfa3f93612a1d", checked := Try.checked }
namespace Rows
def none {H : Type} : Left H := { results := [], args := [] }

/-- 'laws.FnExactPrefixBytes': WHATEVER THE INPUT: true; the input reads as it did. -/
def fnExactPrefixBytesSpec : ChangeSpec := { name := "fnExactPrefixBytes", fn := fun _ => fun
  | [d1, d2, d3] => { results := [.lit (.bool true)], args := [d1, d2, d3] }
  | _ => none }
def fnExactPrefixBytesRow : OpenClaim := { program := "ytidgjjbdabifnaa", sum := "1dab687e41605917cf6636d29a291cf3cba4a8fc2f2414353a3bfa3f93612a1d", func := "loop.example/g00206/laws.FnExactPrefixBytes", spec := "fnExactPrefixBytes", apart := false }
def FnExactPrefixBytesSaid : Prop := fnExactPrefixBytesRow.holds Try.pinned (OpenSpec.ofChange fnExactPrefixBytesSpec)

/-- ITS FALSE NEIGHBOUR: 'it returns false'. Refute it at one input. -/
def fnExactPrefixBytesWrong : ChangeSpec := { name := "fnExactPrefixBytes", fn := fun _ => fun
  | [d1, d2, d3] => { results := [.lit (.bool false)], args := [d1, d2, d3] }
  | _ => none }
def FnExactPrefixBytesWrongFalsely : Prop := fnExactPrefixBytesRow.holds Try.pinned (OpenSpec.ofChange fnExactPrefixBytesWrong)

/-- 'laws.FnExactTakePrefix': WHATEVER THE INPUT: true; the input reads as it did. -/
def fnExactTakePrefixSpec : ChangeSpec := { name := "fnExactTakePrefix", fn := fun _ => fun
  | [d1, d2] => { results := [.lit (.bool true)], args := [d1, d2] }
  | _ => none }
def fnExactTakePrefixRow : OpenClaim := { program := "ytidgjjbdabifnaa", sum := "1dab687e41605917cf6636d29a291cf3cba4a8fc2f2414353a3bfa3f93612a1d", func := "loop.example/g00206/laws.FnExactTakePrefix", spec := "fnExactTakePrefix", apart := false }
def FnExactTakePrefixSaid : Prop := fnExactTakePrefixRow.holds Try.pinned (OpenSpec.ofChange fnExactTakePrefixSpec)

/-- ITS FALSE NEIGHBOUR: 'it returns false'. Refute it at one input. -/
def fnExactTakePrefixWrong : ChangeSpec := { name := "fnExactTakePrefix", fn := fun _ => fun
  | [d1, d2] => { results := [.lit (.bool false)], args := [d1, d2] }
  | _ => none }
def FnExactTakePrefixWrongFalsely : Prop := fnExactTakePrefixRow.holds Try.pinned (OpenSpec.ofChange fnExactTakePrefixWrong)

/-- 'laws.FnExactGoodFields': WHATEVER THE INPUT: true; the input reads as it did. -/
def fnExactGoodFieldsSpec : ChangeSpec := { name := "fnExactGoodFields", fn := fun _ => fun
  | [d] => { results := [.lit (.bool true)], args := [d] }
  | _ => none }
def fnExactGoodFieldsRow : OpenClaim := { program := "ytidgjjbdabifnaa", sum := "1dab687e41605917cf6636d29a291cf3cba4a8fc2f2414353a3bfa3f93612a1d", func := "loop.example/g00206/laws.FnExactGoodFields", spec := "fnExactGoodFields", apart := false }
def FnExactGoodFieldsSaid : Prop := fnExactGoodFieldsRow.holds Try.pinned (OpenSpec.ofChange fnExactGoodFieldsSpec)

/-- ITS FALSE NEIGHBOUR: 'it returns false'. Refute it at one input. -/
def fnExactGoodFieldsWrong : ChangeSpec := { name := "fnExactGoodFields", fn := fun _ => fun
  | [d] => { results := [.lit (.bool false)], args := [d] }
  | _ => none }
def FnExactGoodFieldsWrongFalsely : Prop := fnExactGoodFieldsRow.holds Try.pinned (OpenSpec.ofChange fnExactGoodFieldsWrong)

/- THE SECOND FORM. 'bulk': how many values and letters a reading holds, each counted each time it is reached (what is shared counts as often as it is met; a slice's spare places count too). A statement '..UptoSaid' is the law's where the arguments, and the package variables that the reading takes, are together of bulk at most 1048576: NARROWER than '..Said'. Prove '..Said' where nothing that the law and all that it calls make is longer than what came in: it says more and counts as full. Else prove '..UptoSaid'. A law counts once. -/
mutual
def uptoBulk {H : Type} : DataW H → Nat
  | .lit (.string bytes) => bytes.length + 1
  | .lit _ => 1
  | .nil => 1
  | .ptr d => uptoBulk d + 1
  | .slice elems spare => uptoBulkAll elems + uptoBulkAll spare + 1
  | .agg parts => uptoBulkAll parts + 1
  | .iface _ d => uptoBulk d + 1
  | .map entries => uptoBulkEntries entries + 1
  | .held _ => 1
def uptoBulkAll {H : Type} : List (DataW H) → Nat
  | [] => 0
  | d :: r => uptoBulk d + uptoBulkAll r
def uptoBulkEntries {H : Type} : List (Lit × DataW H) → Nat
  | [] => 0
  | x :: r => uptoBulkEntry x + uptoBulkEntries r
def uptoBulkEntry {H : Type} : Lit × DataW H → Nat
  | (.string bytes, d) => bytes.length + uptoBulk d + 1
  | (_, d) => uptoBulk d + 1
 end
def uptoSmall : (H : Type) → List (DataW H) → Bool := fun _ ds => decide (uptoBulkAll ds ≤ 1048576)
def OpenSpec.upto (s : _root_.Go.ChangeSpec) : _root_.Go.OpenSpec := { _root_.Go.OpenSpec.ofChange s with cond := some uptoSmall }

/-- 'laws.FnExactPrefixBytes', WHERE WHAT IT READS IS OF BULK AT MOST 1048576: true; the input reads as it did. -/
def fnExactPrefixBytesUptoRow : OpenClaim := { program := "ytidgjjbdabifnaa", sum := "1dab687e41605917cf6636d29a291cf3cba4a8fc2f2414353a3bfa3f93612a1d", func := "loop.example/g00206/laws.FnExactPrefixBytes", spec := "fnExactPrefixBytes", apart := false, narrowed := true }
def FnExactPrefixBytesUptoSaid : Prop := fnExactPrefixBytesUptoRow.holds Try.pinned (OpenSpec.upto fnExactPrefixBytesSpec)

/-- 'laws.FnExactTakePrefix', WHERE WHAT IT READS IS OF BULK AT MOST 1048576: true; the input reads as it did. -/
def fnExactTakePrefixUptoRow : OpenClaim := { program := "ytidgjjbdabifnaa", sum := "1dab687e41605917cf6636d29a291cf3cba4a8fc2f2414353a3bfa3f93612a1d", func := "loop.example/g00206/laws.FnExactTakePrefix", spec := "fnExactTakePrefix", apart := false, narrowed := true }
def FnExactTakePrefixUptoSaid : Prop := fnExactTakePrefixUptoRow.holds Try.pinned (OpenSpec.upto fnExactTakePrefixSpec)

/-- 'laws.FnExactGoodFields', WHERE WHAT IT READS IS OF BULK AT MOST 1048576: true; the input reads as it did. -/
def fnExactGoodFieldsUptoRow : OpenClaim := { program := "ytidgjjbdabifnaa", sum := "1dab687e41605917cf6636d29a291cf3cba4a8fc2f2414353a3bfa3f93612a1d", func := "loop.example/g00206/laws.FnExactGoodFields", spec := "fnExactGoodFields", apart := false, narrowed := true }
def FnExactGoodFieldsUptoSaid : Prop := fnExactGoodFieldsUptoRow.holds Try.pinned (OpenSpec.upto fnExactGoodFieldsSpec)

end Rows
end Go.Proofs.Ytidgjjbdabifnaa
