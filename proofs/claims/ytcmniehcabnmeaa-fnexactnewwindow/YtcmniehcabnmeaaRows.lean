/-
  No cell of these rows narrows 'for every input' (looked for: loops, veiled, ifaces, maps, wideKeys, modest, calm, conditions, laid).
  DERIVED. THE GIVEN ROWS OF THIS SEAT. 6 by the template 'for every input the law returns true; each argument reads behind the call as it read before'; 0 by the template 'total and deterministic' (their statements: YtcmniehcabnmeaaTotals.lean).
  GIVEN WITH THE SEED: the statements are not yours to turn. If you find one false, say at which input.
  Laid BY PROGRAM, IN A SANDBOX (cutbox-rows.mjs): the forced cells as the released guide's own fill.sh prints them over the translation 030ee9dce5210b91… (all of the seat's roots in one cut). By AI agents, Wed Nov 11 2026. No macro, syntax, notation, axiom, sorry.
-/
import Derived.Test.YtcmniehcabnmeaaChecked
import GoSem.Claim
import GoSem.ClaimJoined
import GoSem.ClaimMapViews
import Derived.JoinedTies
import Derived.KernelRfl
namespace Go.Proofs.Ytcmniehcabnmeaa
/- THE CELL 'sum', in the pinned program and in every row, IS THE sha256 OF THE DUMP (.gsa) THAT YtcmniehcabnmeaaProg.lean LOADS. Nothing in Lean hashes anything: it is a label: what it is worth is what the hold of that sum in a sandbox is worth. -/
noncomputable def Try.pinned : Pinned := { name := "ytcmniehcabnmeaa", sum := "030ee9dce5210b91ef180d1db6481f591f958234ff50d254079ccf13b5f6f5d6", checked := Try.checked }
namespace Rows
def none {H : Type} : Left H := { results := [], args := [] }

/-- 'laws.FnExactNewWindow': WHATEVER THE INPUT: true; the input reads as it did. -/
def fnExactNewWindowSpec : ChangeSpec := { name := "fnExactNewWindow", fn := fun _ => fun
  | [] => { results := [.lit (.bool true)], args := [] }
  | _ => none }
def fnExactNewWindowRow : OpenClaim := { program := "ytcmniehcabnmeaa", sum := "030ee9dce5210b91ef180d1db6481f591f958234ff50d254079ccf13b5f6f5d6", func := "loop.example/g00206/laws.FnExactNewWindow", spec := "fnExactNewWindow", apart := false }
def FnExactNewWindowSaid : Prop := fnExactNewWindowRow.holds Try.pinned (OpenSpec.ofChange fnExactNewWindowSpec)

/-- ITS FALSE NEIGHBOUR: 'it returns false'. Refute it at one input. -/
def fnExactNewWindowWrong : ChangeSpec := { name := "fnExactNewWindow", fn := fun _ => fun
  | [] => { results := [.lit (.bool false)], args := [] }
  | _ => none }
def FnExactNewWindowWrongFalsely : Prop := fnExactNewWindowRow.holds Try.pinned (OpenSpec.ofChange fnExactNewWindowWrong)

/-- 'laws.FnExactGoodWindow': WHATEVER THE INPUT: true; the input reads as it did. -/
def fnExactGoodWindowSpec : ChangeSpec := { name := "fnExactGoodWindow", fn := fun _ => fun
  | [d] => { results := [.lit (.bool true)], args := [d] }
  | _ => none }
def fnExactGoodWindowRow : OpenClaim := { program := "ytcmniehcabnmeaa", sum := "030ee9dce5210b91ef180d1db6481f591f958234ff50d254079ccf13b5f6f5d6", func := "loop.example/g00206/laws.FnExactGoodWindow", spec := "fnExactGoodWindow", apart := false }
def FnExactGoodWindowSaid : Prop := fnExactGoodWindowRow.holds Try.pinned (OpenSpec.ofChange fnExactGoodWindowSpec)

/-- ITS FALSE NEIGHBOUR: 'it returns false'. Refute it at one input. -/
def fnExactGoodWindowWrong : ChangeSpec := { name := "fnExactGoodWindow", fn := fun _ => fun
  | [d] => { results := [.lit (.bool false)], args := [d] }
  | _ => none }
def FnExactGoodWindowWrongFalsely : Prop := fnExactGoodWindowRow.holds Try.pinned (OpenSpec.ofChange fnExactGoodWindowWrong)

/-- 'laws.FnExactSentBytes': WHATEVER THE INPUT: true; the input reads as it did. -/
def fnExactSentBytesSpec : ChangeSpec := { name := "fnExactSentBytes", fn := fun _ => fun
  | [d1, d2] => { results := [.lit (.bool true)], args := [d1, d2] }
  | _ => none }
def fnExactSentBytesRow : OpenClaim := { program := "ytcmniehcabnmeaa", sum := "030ee9dce5210b91ef180d1db6481f591f958234ff50d254079ccf13b5f6f5d6", func := "loop.example/g00206/laws.FnExactSentBytes", spec := "fnExactSentBytes", unfollowed := true, recurses := true, apart := false }
def FnExactSentBytesSaid : Prop := fnExactSentBytesRow.holds Try.pinned (OpenSpec.ofChange fnExactSentBytesSpec)

/-- ITS FALSE NEIGHBOUR: 'it returns false'. Refute it at one input. -/
def fnExactSentBytesWrong : ChangeSpec := { name := "fnExactSentBytes", fn := fun _ => fun
  | [d1, d2] => { results := [.lit (.bool false)], args := [d1, d2] }
  | _ => none }
def FnExactSentBytesWrongFalsely : Prop := fnExactSentBytesRow.holds Try.pinned (OpenSpec.ofChange fnExactSentBytesWrong)

/-- 'laws.FnExactAckedBytes': WHATEVER THE INPUT: true; the input reads as it did. -/
def fnExactAckedBytesSpec : ChangeSpec := { name := "fnExactAckedBytes", fn := fun _ => fun
  | [d1, d2, d3] => { results := [.lit (.bool true)], args := [d1, d2, d3] }
  | _ => none }
def fnExactAckedBytesRow : OpenClaim := { program := "ytcmniehcabnmeaa", sum := "030ee9dce5210b91ef180d1db6481f591f958234ff50d254079ccf13b5f6f5d6", func := "loop.example/g00206/laws.FnExactAckedBytes", spec := "fnExactAckedBytes", unfollowed := true, recurses := true, apart := false }
def FnExactAckedBytesSaid : Prop := fnExactAckedBytesRow.holds Try.pinned (OpenSpec.ofChange fnExactAckedBytesSpec)

/-- ITS FALSE NEIGHBOUR: 'it returns false'. Refute it at one input. -/
def fnExactAckedBytesWrong : ChangeSpec := { name := "fnExactAckedBytes", fn := fun _ => fun
  | [d1, d2, d3] => { results := [.lit (.bool false)], args := [d1, d2, d3] }
  | _ => none }
def FnExactAckedBytesWrongFalsely : Prop := fnExactAckedBytesRow.holds Try.pinned (OpenSpec.ofChange fnExactAckedBytesWrong)

/-- 'laws.FnExactLostBytes': WHATEVER THE INPUT: true; the input reads as it did. -/
def fnExactLostBytesSpec : ChangeSpec := { name := "fnExactLostBytes", fn := fun _ => fun
  | [d1, d2, d3, d4] => { results := [.lit (.bool true)], args := [d1, d2, d3, d4] }
  | _ => none }
def fnExactLostBytesRow : OpenClaim := { program := "ytcmniehcabnmeaa", sum := "030ee9dce5210b91ef180d1db6481f591f958234ff50d254079ccf13b5f6f5d6", func := "loop.example/g00206/laws.FnExactLostBytes", spec := "fnExactLostBytes", unfollowed := true, recurses := true, apart := false }
def FnExactLostBytesSaid : Prop := fnExactLostBytesRow.holds Try.pinned (OpenSpec.ofChange fnExactLostBytesSpec)

/-- ITS FALSE NEIGHBOUR: 'it returns false'. Refute it at one input. -/
def fnExactLostBytesWrong : ChangeSpec := { name := "fnExactLostBytes", fn := fun _ => fun
  | [d1, d2, d3, d4] => { results := [.lit (.bool false)], args := [d1, d2, d3, d4] }
  | _ => none }
def FnExactLostBytesWrongFalsely : Prop := fnExactLostBytesRow.holds Try.pinned (OpenSpec.ofChange fnExactLostBytesWrong)

/-- 'laws.FnExactStalledWindow': WHATEVER THE INPUT: true; the input reads as it did. -/
def fnExactStalledWindowSpec : ChangeSpec := { name := "fnExactStalledWindow", fn := fun _ => fun
  | [d] => { results := [.lit (.bool true)], args := [d] }
  | _ => none }
def fnExactStalledWindowRow : OpenClaim := { program := "ytcmniehcabnmeaa", sum := "030ee9dce5210b91ef180d1db6481f591f958234ff50d254079ccf13b5f6f5d6", func := "loop.example/g00206/laws.FnExactStalledWindow", spec := "fnExactStalledWindow", unfollowed := true, recurses := true, apart := false }
def FnExactStalledWindowSaid : Prop := fnExactStalledWindowRow.holds Try.pinned (OpenSpec.ofChange fnExactStalledWindowSpec)

/-- ITS FALSE NEIGHBOUR: 'it returns false'. Refute it at one input. -/
def fnExactStalledWindowWrong : ChangeSpec := { name := "fnExactStalledWindow", fn := fun _ => fun
  | [d] => { results := [.lit (.bool false)], args := [d] }
  | _ => none }
def FnExactStalledWindowWrongFalsely : Prop := fnExactStalledWindowRow.holds Try.pinned (OpenSpec.ofChange fnExactStalledWindowWrong)

/- THE SECOND FORM. 'bulk': how many values and letters a reading holds, each counted each time it is reached (what is shared counts as often as it is met; a slice's spare places count too). A statement '..UptoSaid' is the law's where the arguments, and the package variables that the reading takes, are together of bulk at most 1048576: NARROWER than '..Said'. Prove '..Said' where nothing that the law and all that it calls make is longer than what came in: it says more and counts as full. Else prove '..UptoSaid'. A law counts once. -/
mutual
def uptoBulk {H : Type} : DataW H → Nat
  | .lit (.string bytes) => bytes.length + 1
  | .lit _ => 1
  | .nil => 1
  | .ptr d => uptoBulk d + 1
  | .slice elems spare => uptoBulkAll elems + uptoBulkAll spare + 1
  | .agg parts => uptoBulkAll parts + 1
  | .iface _ d => uptoBulk d + 1
  | .map entries => uptoBulkEntries entries + 1
  | .held _ => 1
def uptoBulkAll {H : Type} : List (DataW H) → Nat
  | [] => 0
  | d :: r => uptoBulk d + uptoBulkAll r
def uptoBulkEntries {H : Type} : List (Lit × DataW H) → Nat
  | [] => 0
  | x :: r => uptoBulkEntry x + uptoBulkEntries r
def uptoBulkEntry {H : Type} : Lit × DataW H → Nat
  | (.string bytes, d) => bytes.length + uptoBulk d + 1
  | (_, d) => uptoBulk d + 1
 end
def uptoSmall : (H : Type) → List (DataW H) → Bool := fun _ ds => decide (uptoBulkAll ds ≤ 1048576)
def OpenSpec.upto (s : _root_.Go.ChangeSpec) : _root_.Go.OpenSpec := { _root_.Go.OpenSpec.ofChange s with cond := some uptoSmall }

/-- 'laws.FnExactNewWindow', WHERE WHAT IT READS IS OF BULK AT MOST 1048576: true; the input reads as it did. -/
def fnExactNewWindowUptoRow : OpenClaim := { program := "ytcmniehcabnmeaa", sum := "030ee9dce5210b91ef180d1db6481f591f958234ff50d254079ccf13b5f6f5d6", func := "loop.example/g00206/laws.FnExactNewWindow", spec := "fnExactNewWindow", apart := false, narrowed := true }
def FnExactNewWindowUptoSaid : Prop := fnExactNewWindowUptoRow.holds Try.pinned (OpenSpec.upto fnExactNewWindowSpec)

/-- 'laws.FnExactGoodWindow', WHERE WHAT IT READS IS OF BULK AT MOST 1048576: true; the input reads as it did. -/
def fnExactGoodWindowUptoRow : OpenClaim := { program := "ytcmniehcabnmeaa", sum := "030ee9dce5210b91ef180d1db6481f591f958234ff50d254079ccf13b5f6f5d6", func := "loop.example/g00206/laws.FnExactGoodWindow", spec := "fnExactGoodWindow", apart := false, narrowed := true }
def FnExactGoodWindowUptoSaid : Prop := fnExactGoodWindowUptoRow.holds Try.pinned (OpenSpec.upto fnExactGoodWindowSpec)

/-- 'laws.FnExactSentBytes', WHERE WHAT IT READS IS OF BULK AT MOST 1048576: true; the input reads as it did. -/
def fnExactSentBytesUptoRow : OpenClaim := { program := "ytcmniehcabnmeaa", sum := "030ee9dce5210b91ef180d1db6481f591f958234ff50d254079ccf13b5f6f5d6", func := "loop.example/g00206/laws.FnExactSentBytes", spec := "fnExactSentBytes", unfollowed := true, recurses := true, apart := false, narrowed := true }
def FnExactSentBytesUptoSaid : Prop := fnExactSentBytesUptoRow.holds Try.pinned (OpenSpec.upto fnExactSentBytesSpec)

/-- 'laws.FnExactAckedBytes', WHERE WHAT IT READS IS OF BULK AT MOST 1048576: true; the input reads as it did. -/
def fnExactAckedBytesUptoRow : OpenClaim := { program := "ytcmniehcabnmeaa", sum := "030ee9dce5210b91ef180d1db6481f591f958234ff50d254079ccf13b5f6f5d6", func := "loop.example/g00206/laws.FnExactAckedBytes", spec := "fnExactAckedBytes", unfollowed := true, recurses := true, apart := false, narrowed := true }
def FnExactAckedBytesUptoSaid : Prop := fnExactAckedBytesUptoRow.holds Try.pinned (OpenSpec.upto fnExactAckedBytesSpec)

/-- 'laws.FnExactLostBytes', WHERE WHAT IT READS IS OF BULK AT MOST 1048576: true; the input reads as it did. -/
def fnExactLostBytesUptoRow : OpenClaim := { program := "ytcmniehcabnmeaa", sum := "030ee9dce5210b91ef180d1db6481f591f958234ff50d254079ccf13b5f6f5d6", func := "loop.example/g00206/laws.FnExactLostBytes", spec := "fnExactLostBytes", unfollowed := true, recurses := true, apart := false, narrowed := true }
def FnExactLostBytesUptoSaid : Prop := fnExactLostBytesUptoRow.holds Try.pinned (OpenSpec.upto fnExactLostBytesSpec)

/-- 'laws.FnExactStalledWindow', WHERE WHAT IT READS IS OF BULK AT MOST 1048576: true; the input reads as it did. -/
def fnExactStalledWindowUptoRow : OpenClaim := { program := "ytcmniehcabnmeaa", sum := "030ee9dce5210b91ef180d1db6481f591f958234ff50d254079ccf13b5f6f5d6", func := "loop.example/g00206/laws.FnExactStalledWindow", spec := "fnExactStalledWindow", unfollowed := true, recurses := true, apart := false, narrowed := true }
def FnExactStalledWindowUptoSaid : Prop := fnExactStalledWindowUptoRow.holds Try.pinned (OpenSpec.upto fnExactStalledWindowSpec)

end Rows
end Go.Proofs.Ytcmniehcabnmeaa
