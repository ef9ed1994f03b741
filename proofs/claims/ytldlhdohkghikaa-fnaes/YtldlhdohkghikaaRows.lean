/-
  No cell of these rows narrows 'for every input' (looked for: loops, veiled, ifaces, maps, wideKeys, modest, calm, conditions, laid).
  DERIVED. THE GIVEN ROWS OF THIS SEAT. 5 by the template 'for every input the law returns true; each argument reads behind the call as it read before'; 0 by the template 'total and deterministic' (their statements: YtldlhdohkghikaaTotals.lean).
  GIVEN WITH THE SEED: the statements are not yours to turn. If you find one false, say at which input.
  Laid BY PROGRAM, IN A SANDBOX (cutbox-rows.mjs): the forced cells as the released guide's own fill.sh prints them over the translation 001ddf06c8c44358… (all of the seat's roots in one cut). By AI agents, Wed Nov 11 2026. No macro, syntax, notation, axiom, sorry.
-/
import Derived.Test.YtldlhdohkghikaaChecked
import GoSem.Claim
import GoSem.ClaimJoined
import GoSem.ClaimMapViews
import Derived.JoinedTies
import Derived.KernelRfl
namespace Go.Proofs.Ytldlhdohkghikaa
/- THE CELL 'sum', in the pinned program and in every row, IS THE sha256 OF THE DUMP (.gsa) THAT YtldlhdohkghikaaProg.lean LOADS. Nothing in Lean hashes anything: it is a label: what it is worth is what the hold of that sum in a sandbox is worth. -/
noncomputable def Try.pinned : Pinned := { name := "ytldlhdohkghikaa", sum := "001ddf06c8c44358e6c24a38e2f1243730f209f7a1ca82dd83ec6557cd46cc9c", checked := Try.checked }
namespace Rows
def none {H : Type} : Left H := { results := [], args := [] }

/-- 'laws.FnAes': WHATEVER THE INPUT: true; the input reads as it did. -/
def fnAesSpec : ChangeSpec := { name := "fnAes", fn := fun _ => fun
  | [d1, d2] => { results := [.lit (.bool true)], args := [d1, d2] }
  | _ => none }
def fnAesRow : OpenClaim := { program := "ytldlhdohkghikaa", sum := "001ddf06c8c44358e6c24a38e2f1243730f209f7a1ca82dd83ec6557cd46cc9c", func := "loop.example/g00206/laws.FnAes", spec := "fnAes", apart := false }
def FnAesSaid : Prop := fnAesRow.holds Try.pinned (OpenSpec.ofChange fnAesSpec)

/-- ITS FALSE NEIGHBOUR: 'it returns false'. Refute it at one input. -/
def fnAesWrong : ChangeSpec := { name := "fnAes", fn := fun _ => fun
  | [d1, d2] => { results := [.lit (.bool false)], args := [d1, d2] }
  | _ => none }
def FnAesWrongFalsely : Prop := fnAesRow.holds Try.pinned (OpenSpec.ofChange fnAesWrong)

/-- 'laws.FnCounted': WHATEVER THE INPUT: true; the input reads as it did. -/
def fnCountedSpec : ChangeSpec := { name := "fnCounted", fn := fun _ => fun
  | [d1, d2] => { results := [.lit (.bool true)], args := [d1, d2] }
  | _ => none }
def fnCountedRow : OpenClaim := { program := "ytldlhdohkghikaa", sum := "001ddf06c8c44358e6c24a38e2f1243730f209f7a1ca82dd83ec6557cd46cc9c", func := "loop.example/g00206/laws.FnCounted", spec := "fnCounted", apart := false }
def FnCountedSaid : Prop := fnCountedRow.holds Try.pinned (OpenSpec.ofChange fnCountedSpec)

/-- ITS FALSE NEIGHBOUR: 'it returns false'. Refute it at one input. -/
def fnCountedWrong : ChangeSpec := { name := "fnCounted", fn := fun _ => fun
  | [d1, d2] => { results := [.lit (.bool false)], args := [d1, d2] }
  | _ => none }
def FnCountedWrongFalsely : Prop := fnCountedRow.holds Try.pinned (OpenSpec.ofChange fnCountedWrong)

/-- 'laws.FnExactAesBlock': WHATEVER THE INPUT: true; the input reads as it did. -/
def fnExactAesBlockSpec : ChangeSpec := { name := "fnExactAesBlock", fn := fun _ => fun
  | [d1, d2] => { results := [.lit (.bool true)], args := [d1, d2] }
  | _ => none }
def fnExactAesBlockRow : OpenClaim := { program := "ytldlhdohkghikaa", sum := "001ddf06c8c44358e6c24a38e2f1243730f209f7a1ca82dd83ec6557cd46cc9c", func := "loop.example/g00206/laws.FnExactAesBlock", spec := "fnExactAesBlock", apart := false }
def FnExactAesBlockSaid : Prop := fnExactAesBlockRow.holds Try.pinned (OpenSpec.ofChange fnExactAesBlockSpec)

/-- ITS FALSE NEIGHBOUR: 'it returns false'. Refute it at one input. -/
def fnExactAesBlockWrong : ChangeSpec := { name := "fnExactAesBlock", fn := fun _ => fun
  | [d1, d2] => { results := [.lit (.bool false)], args := [d1, d2] }
  | _ => none }
def FnExactAesBlockWrongFalsely : Prop := fnExactAesBlockRow.holds Try.pinned (OpenSpec.ofChange fnExactAesBlockWrong)

/-- 'laws.FnExactAesBack': WHATEVER THE INPUT: true; the input reads as it did. -/
def fnExactAesBackSpec : ChangeSpec := { name := "fnExactAesBack", fn := fun _ => fun
  | [d1, d2] => { results := [.lit (.bool true)], args := [d1, d2] }
  | _ => none }
def fnExactAesBackRow : OpenClaim := { program := "ytldlhdohkghikaa", sum := "001ddf06c8c44358e6c24a38e2f1243730f209f7a1ca82dd83ec6557cd46cc9c", func := "loop.example/g00206/laws.FnExactAesBack", spec := "fnExactAesBack", apart := false }
def FnExactAesBackSaid : Prop := fnExactAesBackRow.holds Try.pinned (OpenSpec.ofChange fnExactAesBackSpec)

/-- ITS FALSE NEIGHBOUR: 'it returns false'. Refute it at one input. -/
def fnExactAesBackWrong : ChangeSpec := { name := "fnExactAesBack", fn := fun _ => fun
  | [d1, d2] => { results := [.lit (.bool false)], args := [d1, d2] }
  | _ => none }
def FnExactAesBackWrongFalsely : Prop := fnExactAesBackRow.holds Try.pinned (OpenSpec.ofChange fnExactAesBackWrong)

/-- 'laws.FnExactAesCounter': WHATEVER THE INPUT: true; the input reads as it did. -/
def fnExactAesCounterSpec : ChangeSpec := { name := "fnExactAesCounter", fn := fun _ => fun
  | [d1, d2, d3] => { results := [.lit (.bool true)], args := [d1, d2, d3] }
  | _ => none }
def fnExactAesCounterRow : OpenClaim := { program := "ytldlhdohkghikaa", sum := "001ddf06c8c44358e6c24a38e2f1243730f209f7a1ca82dd83ec6557cd46cc9c", func := "loop.example/g00206/laws.FnExactAesCounter", spec := "fnExactAesCounter", apart := false }
def FnExactAesCounterSaid : Prop := fnExactAesCounterRow.holds Try.pinned (OpenSpec.ofChange fnExactAesCounterSpec)

/-- ITS FALSE NEIGHBOUR: 'it returns false'. Refute it at one input. -/
def fnExactAesCounterWrong : ChangeSpec := { name := "fnExactAesCounter", fn := fun _ => fun
  | [d1, d2, d3] => { results := [.lit (.bool false)], args := [d1, d2, d3] }
  | _ => none }
def FnExactAesCounterWrongFalsely : Prop := fnExactAesCounterRow.holds Try.pinned (OpenSpec.ofChange fnExactAesCounterWrong)

/- THE SECOND FORM. 'bulk': how many values and letters a reading holds, each counted each time it is reached (what is shared counts as often as it is met; a slice's spare places count too). A statement '..UptoSaid' is the law's where the arguments, and the package variables that the reading takes, are together of bulk at most 1048576: NARROWER than '..Said'. Prove '..Said' where nothing that the law and all that it calls make is longer than what came in: it says more and counts as full. Else prove '..UptoSaid'. A law counts once. -/
mutual
def uptoBulk {H : Type} : DataW H → Nat
  | .lit (.string bytes) => bytes.length + 1
  | .lit _ => 1
  | .nil => 1
  | .ptr d => uptoBulk d + 1
  | .slice elems spare => uptoBulkAll elems + uptoBulkAll spare + 1
  | .agg parts => uptoBulkAll parts + 1
  | .iface _ d => uptoBulk d + 1
  | .map entries => uptoBulkEntries entries + 1
  | .held _ => 1
def uptoBulkAll {H : Type} : List (DataW H) → Nat
  | [] => 0
  | d :: r => uptoBulk d + uptoBulkAll r
def uptoBulkEntries {H : Type} : List (Lit × DataW H) → Nat
  | [] => 0
  | x :: r => uptoBulkEntry x + uptoBulkEntries r
def uptoBulkEntry {H : Type} : Lit × DataW H → Nat
  | (.string bytes, d) => bytes.length + uptoBulk d + 1
  | (_, d) => uptoBulk d + 1
 end
def uptoSmall : (H : Type) → List (DataW H) → Bool := fun _ ds => decide (uptoBulkAll ds ≤ 1048576)
def OpenSpec.upto (s : _root_.Go.ChangeSpec) : _root_.Go.OpenSpec := { _root_.Go.OpenSpec.ofChange s with cond := some uptoSmall }

/-- 'laws.FnAes', WHERE WHAT IT READS IS OF BULK AT MOST 1048576: true; the input reads as it did. -/
def fnAesUptoRow : OpenClaim := { program := "ytldlhdohkghikaa", sum := "001ddf06c8c44358e6c24a38e2f1243730f209f7a1ca82dd83ec6557cd46cc9c", func := "loop.example/g00206/laws.FnAes", spec := "fnAes", apart := false, narrowed := true }
def FnAesUptoSaid : Prop := fnAesUptoRow.holds Try.pinned (OpenSpec.upto fnAesSpec)

/-- 'laws.FnCounted', WHERE WHAT IT READS IS OF BULK AT MOST 1048576: true; the input reads as it did. -/
def fnCountedUptoRow : OpenClaim := { program := "ytldlhdohkghikaa", sum := "001ddf06c8c44358e6c24a38e2f1243730f209f7a1ca82dd83ec6557cd46cc9c", func := "loop.example/g00206/laws.FnCounted", spec := "fnCounted", apart := false, narrowed := true }
def FnCountedUptoSaid : Prop := fnCountedUptoRow.holds Try.pinned (OpenSpec.upto fnCountedSpec)

/-- 'laws.FnExactAesBlock', WHERE WHAT IT READS IS OF BULK AT MOST 1048576: true; the input reads as it did. -/
def fnExactAesBlockUptoRow : OpenClaim := { program := "ytldlhdohkghikaa", sum := "001ddf06c8c44358e6c24a38e2f1243730f209f7a1ca82dd83ec6557cd46cc9c", func := "loop.example/g00206/laws.FnExactAesBlock", spec := "fnExactAesBlock", apart := false, narrowed := true }
def FnExactAesBlockUptoSaid : Prop := fnExactAesBlockUptoRow.holds Try.pinned (OpenSpec.upto fnExactAesBlockSpec)

/-- 'laws.FnExactAesBack', WHERE WHAT IT READS IS OF BULK AT MOST 1048576: true; the input reads as it did. -/
def fnExactAesBackUptoRow : OpenClaim := { program := "ytldlhdohkghikaa", sum := "001ddf06c8c44358e6c24a38e2f1243730f209f7a1ca82dd83ec6557cd46cc9c", func := "loop.example/g00206/laws.FnExactAesBack", spec := "fnExactAesBack", apart := false, narrowed := true }
def FnExactAesBackUptoSaid : Prop := fnExactAesBackUptoRow.holds Try.pinned (OpenSpec.upto fnExactAesBackSpec)

/-- 'laws.FnExactAesCounter', WHERE WHAT IT READS IS OF BULK AT MOST 1048576: true; the input reads as it did. -/
def fnExactAesCounterUptoRow : OpenClaim := { program := "ytldlhdohkghikaa", sum := "001ddf06c8c44358e6c24a38e2f1243730f209f7a1ca82dd83ec6557cd46cc9c", func := "loop.example/g00206/laws.FnExactAesCounter", spec := "fnExactAesCounter", apart := false, narrowed := true }
def FnExactAesCounterUptoSaid : Prop := fnExactAesCounterUptoRow.holds Try.pinned (OpenSpec.upto fnExactAesCounterSpec)

end Rows
end Go.Proofs.Ytldlhdohkghikaa
