/-
  No cell of these rows narrows 'for every input' (looked for: loops, veiled, ifaces, maps, wideKeys, modest, calm, conditions, laid).
  DERIVED. THE GIVEN ROWS OF THIS SEAT. 6 by the template 'for every input the law returns true; each argument reads behind the call as it read before'; 0 by the template 'total and deterministic' (their statements: YtgoafbhhihfkfaaTotals.lean).
  GIVEN WITH THE SEED: the statements are not yours to turn. If you find one false, say at which input.
  Laid BY PROGRAM, IN A SANDBOX (cutbox-rows.mjs): the forced cells as the released guide's own fill.sh prints them over the translation 4ceadd7926130101… (all of the seat's roots in one cut). By AI agents, Wed Nov 11 2026. No macro, syntax, notation, axiom, sorry.
-/
import Derived.Test.YtgoafbhhihfkfaaChecked
import GoSem.Claim
import GoSem.ClaimJoined
import GoSem.ClaimMapViews
import Derived.JoinedTies
import Derived.KernelRfl
namespace Go.Proofs.Ytgoafbhhihfkfaa
/- THE CELL 'sum', in the pinned program and in every row, IS THE sha256 OF THE DUMP (.gsa) THAT YtgoafbhhihfkfaaProg.lean LOADS. Nothing in Lean hashes anything: it is a label: what it is worth is what the hold of that sum in a sandbox is worth. -/
noncomputable def Try.pinned : Pinned := { name := "ytgoafbhhihfkfaa", sum := "4ceadd79261301018b40a1770946c07ee80bd92773bd03e95791eb788ddc71b9", checked := Try.checked }
namespace Rows
def none {H : Type} : Left H := { results := [], args := [] }

/-- 'laws.FnBlocks': WHATEVER THE INPUT: true; the input reads as it did. -/
def fnBlocksSpec : ChangeSpec := { name := "fnBlocks", fn := fun _ => fun
  | [d1, d2] => { results := [.lit (.bool true)], args := [d1, d2] }
  | _ => none }
def fnBlocksRow : OpenClaim := { program := "ytgoafbhhihfkfaa", sum := "4ceadd79261301018b40a1770946c07ee80bd92773bd03e95791eb788ddc71b9", func := "loop.example/g00206/laws.FnBlocks", spec := "fnBlocks", apart := false }
def FnBlocksSaid : Prop := fnBlocksRow.holds Try.pinned (OpenSpec.ofChange fnBlocksSpec)

/-- ITS FALSE NEIGHBOUR: 'it returns false'. Refute it at one input. -/
def fnBlocksWrong : ChangeSpec := { name := "fnBlocks", fn := fun _ => fun
  | [d1, d2] => { results := [.lit (.bool false)], args := [d1, d2] }
  | _ => none }
def FnBlocksWrongFalsely : Prop := fnBlocksRow.holds Try.pinned (OpenSpec.ofChange fnBlocksWrong)

/-- 'laws.FnGhash': WHATEVER THE INPUT: true; the input reads as it did. -/
def fnGhashSpec : ChangeSpec := { name := "fnGhash", fn := fun _ => fun
  | [d1, d2] => { results := [.lit (.bool true)], args := [d1, d2] }
  | _ => none }
def fnGhashRow : OpenClaim := { program := "ytgoafbhhihfkfaa", sum := "4ceadd79261301018b40a1770946c07ee80bd92773bd03e95791eb788ddc71b9", func := "loop.example/g00206/laws.FnGhash", spec := "fnGhash", apart := false }
def FnGhashSaid : Prop := fnGhashRow.holds Try.pinned (OpenSpec.ofChange fnGhashSpec)

/-- ITS FALSE NEIGHBOUR: 'it returns false'. Refute it at one input. -/
def fnGhashWrong : ChangeSpec := { name := "fnGhash", fn := fun _ => fun
  | [d1, d2] => { results := [.lit (.bool false)], args := [d1, d2] }
  | _ => none }
def FnGhashWrongFalsely : Prop := fnGhashRow.holds Try.pinned (OpenSpec.ofChange fnGhashWrong)

/-- 'laws.FnSealed': WHATEVER THE INPUT: true; the input reads as it did. -/
def fnSealedSpec : ChangeSpec := { name := "fnSealed", fn := fun _ => fun
  | [d1, d2] => { results := [.lit (.bool true)], args := [d1, d2] }
  | _ => none }
def fnSealedRow : OpenClaim := { program := "ytgoafbhhihfkfaa", sum := "4ceadd79261301018b40a1770946c07ee80bd92773bd03e95791eb788ddc71b9", func := "loop.example/g00206/laws.FnSealed", spec := "fnSealed", apart := false }
def FnSealedSaid : Prop := fnSealedRow.holds Try.pinned (OpenSpec.ofChange fnSealedSpec)

/-- ITS FALSE NEIGHBOUR: 'it returns false'. Refute it at one input. -/
def fnSealedWrong : ChangeSpec := { name := "fnSealed", fn := fun _ => fun
  | [d1, d2] => { results := [.lit (.bool false)], args := [d1, d2] }
  | _ => none }
def FnSealedWrongFalsely : Prop := fnSealedRow.holds Try.pinned (OpenSpec.ofChange fnSealedWrong)

/-- 'laws.FnExactMulBlock': WHATEVER THE INPUT: true; the input reads as it did. -/
def fnExactMulBlockSpec : ChangeSpec := { name := "fnExactMulBlock", fn := fun _ => fun
  | [d1, d2] => { results := [.lit (.bool true)], args := [d1, d2] }
  | _ => none }
def fnExactMulBlockRow : OpenClaim := { program := "ytgoafbhhihfkfaa", sum := "4ceadd79261301018b40a1770946c07ee80bd92773bd03e95791eb788ddc71b9", func := "loop.example/g00206/laws.FnExactMulBlock", spec := "fnExactMulBlock", apart := false }
def FnExactMulBlockSaid : Prop := fnExactMulBlockRow.holds Try.pinned (OpenSpec.ofChange fnExactMulBlockSpec)

/-- ITS FALSE NEIGHBOUR: 'it returns false'. Refute it at one input. -/
def fnExactMulBlockWrong : ChangeSpec := { name := "fnExactMulBlock", fn := fun _ => fun
  | [d1, d2] => { results := [.lit (.bool false)], args := [d1, d2] }
  | _ => none }
def FnExactMulBlockWrongFalsely : Prop := fnExactMulBlockRow.holds Try.pinned (OpenSpec.ofChange fnExactMulBlockWrong)

/-- 'laws.FnExactGhash': WHATEVER THE INPUT: true; the input reads as it did. -/
def fnExactGhashSpec : ChangeSpec := { name := "fnExactGhash", fn := fun _ => fun
  | [d1, d2] => { results := [.lit (.bool true)], args := [d1, d2] }
  | _ => none }
def fnExactGhashRow : OpenClaim := { program := "ytgoafbhhihfkfaa", sum := "4ceadd79261301018b40a1770946c07ee80bd92773bd03e95791eb788ddc71b9", func := "loop.example/g00206/laws.FnExactGhash", spec := "fnExactGhash", apart := false }
def FnExactGhashSaid : Prop := fnExactGhashRow.holds Try.pinned (OpenSpec.ofChange fnExactGhashSpec)

/-- ITS FALSE NEIGHBOUR: 'it returns false'. Refute it at one input. -/
def fnExactGhashWrong : ChangeSpec := { name := "fnExactGhash", fn := fun _ => fun
  | [d1, d2] => { results := [.lit (.bool false)], args := [d1, d2] }
  | _ => none }
def FnExactGhashWrongFalsely : Prop := fnExactGhashRow.holds Try.pinned (OpenSpec.ofChange fnExactGhashWrong)

/-- 'laws.FnExactSealText': WHATEVER THE INPUT: true; the input reads as it did. -/
def fnExactSealTextSpec : ChangeSpec := { name := "fnExactSealText", fn := fun _ => fun
  | [d1, d2, d3, d4] => { results := [.lit (.bool true)], args := [d1, d2, d3, d4] }
  | _ => none }
def fnExactSealTextRow : OpenClaim := { program := "ytgoafbhhihfkfaa", sum := "4ceadd79261301018b40a1770946c07ee80bd92773bd03e95791eb788ddc71b9", func := "loop.example/g00206/laws.FnExactSealText", spec := "fnExactSealText", apart := false }
def FnExactSealTextSaid : Prop := fnExactSealTextRow.holds Try.pinned (OpenSpec.ofChange fnExactSealTextSpec)

/-- ITS FALSE NEIGHBOUR: 'it returns false'. Refute it at one input. -/
def fnExactSealTextWrong : ChangeSpec := { name := "fnExactSealText", fn := fun _ => fun
  | [d1, d2, d3, d4] => { results := [.lit (.bool false)], args := [d1, d2, d3, d4] }
  | _ => none }
def FnExactSealTextWrongFalsely : Prop := fnExactSealTextRow.holds Try.pinned (OpenSpec.ofChange fnExactSealTextWrong)

/- THE SECOND FORM. 'bulk': how many values and letters a reading holds, each counted each time it is reached (what is shared counts as often as it is met; a slice's spare places count too). A statement '..UptoSaid' is the law's where the arguments, and the package variables that the reading takes, are together of bulk at most 1048576: NARROWER than '..Said'. Prove '..Said' where nothing that the law and all that it calls make is longer than what came in: it says more and counts as full. Else prove '..UptoSaid'. A law counts once. -/
mutual
def uptoBulk {H : Type} : DataW H → Nat
  | .lit (.string bytes) => bytes.length + 1
  | .lit _ => 1
  | .nil => 1
  | .ptr d => uptoBulk d + 1
  | .slice elems spare => uptoBulkAll elems + uptoBulkAll spare + 1
  | .agg parts => uptoBulkAll parts + 1
  | .iface _ d => uptoBulk d + 1
  | .map entries => uptoBulkEntries entries + 1
  | .held _ => 1
def uptoBulkAll {H : Type} : List (DataW H) → Nat
  | [] => 0
  | d :: r => uptoBulk d + uptoBulkAll r
def uptoBulkEntries {H : Type} : List (Lit × DataW H) → Nat
  | [] => 0
  | x :: r => uptoBulkEntry x + uptoBulkEntries r
def uptoBulkEntry {H : Type} : Lit × DataW H → Nat
  | (.string bytes, d) => bytes.length + uptoBulk d + 1
  | (_, d) => uptoBulk d + 1
 end
def uptoSmall : (H : Type) → List (DataW H) → Bool := fun _ ds => decide (uptoBulkAll ds ≤ 1048576)
def OpenSpec.upto (s : _root_.Go.ChangeSpec) : _root_.Go.OpenSpec := { _root_.Go.OpenSpec.ofChange s with cond := some uptoSmall }

/-- 'laws.FnBlocks', WHERE WHAT IT READS IS OF BULK AT MOST 1048576: true; the input reads as it did. -/
def fnBlocksUptoRow : OpenClaim := { program := "ytgoafbhhihfkfaa", sum := "4ceadd79261301018b40a1770946c07ee80bd92773bd03e95791eb788ddc71b9", func := "loop.example/g00206/laws.FnBlocks", spec := "fnBlocks", apart := false, narrowed := true }
def FnBlocksUptoSaid : Prop := fnBlocksUptoRow.holds Try.pinned (OpenSpec.upto fnBlocksSpec)

/-- 'laws.FnGhash', WHERE WHAT IT READS IS OF BULK AT MOST 1048576: true; the input reads as it did. -/
def fnGhashUptoRow : OpenClaim := { program := "ytgoafbhhihfkfaa", sum := "4ceadd79261301018b40a1770946c07ee80bd92773bd03e95791eb788ddc71b9", func := "loop.example/g00206/laws.FnGhash", spec := "fnGhash", apart := false, narrowed := true }
def FnGhashUptoSaid : Prop := fnGhashUptoRow.holds Try.pinned (OpenSpec.upto fnGhashSpec)

/-- 'laws.FnSealed', WHERE WHAT IT READS IS OF BULK AT MOST 1048576: true; the input reads as it did. -/
def fnSealedUptoRow : OpenClaim := { program := "ytgoafbhhihfkfaa", sum := "4ceadd79261301018b40a1770946c07ee80bd92773bd03e95791eb788ddc71b9", func := "loop.example/g00206/laws.FnSealed", spec := "fnSealed", apart := false, narrowed := true }
def FnSealedUptoSaid : Prop := fnSealedUptoRow.holds Try.pinned (OpenSpec.upto fnSealedSpec)

/-- 'laws.FnExactMulBlock', WHERE WHAT IT READS IS OF BULK AT MOST 1048576: true; the input reads as it did. -/
def fnExactMulBlockUptoRow : OpenClaim := { program := "ytgoafbhhihfkfaa", sum := "4ceadd79261301018b40a1770946c07ee80bd92773bd03e95791eb788ddc71b9", func := "loop.example/g00206/laws.FnExactMulBlock", spec := "fnExactMulBlock", apart := false, narrowed := true }
def FnExactMulBlockUptoSaid : Prop := fnExactMulBlockUptoRow.holds Try.pinned (OpenSpec.upto fnExactMulBlockSpec)

/-- 'laws.FnExactGhash', WHERE WHAT IT READS IS OF BULK AT MOST 1048576: true; the input reads as it did. -/
def fnExactGhashUptoRow : OpenClaim := { program := "ytgoafbhhihfkfaa", sum := "4ceadd79261301018b40a1770946c07ee80bd92773bd03e95791eb788ddc71b9", func := "loop.example/g00206/laws.FnExactGhash", spec := "fnExactGhash", apart := false, narrowed := true }
def FnExactGhashUptoSaid : Prop := fnExactGhashUptoRow.holds Try.pinned (OpenSpec.upto fnExactGhashSpec)

/-- 'laws.FnExactSealText', WHERE WHAT IT READS IS OF BULK AT MOST 1048576: true; the input reads as it did. -/
def fnExactSealTextUptoRow : OpenClaim := { program := "ytgoafbhhihfkfaa", sum := "4ceadd79261301018b40a1770946c07ee80bd92773bd03e95791eb788ddc71b9", func := "loop.example/g00206/laws.FnExactSealText", spec := "fnExactSealText", apart := false, narrowed := true }
def FnExactSealTextUptoSaid : Prop := fnExactSealTextUptoRow.holds Try.pinned (OpenSpec.upto fnExactSealTextSpec)

end Rows
end Go.Proofs.Ytgoafbhhihfkfaa
