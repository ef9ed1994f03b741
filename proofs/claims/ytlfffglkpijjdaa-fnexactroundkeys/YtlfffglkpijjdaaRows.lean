/-
  No cell of these rows narrows 'for every input' (looked for: loops, veiled, ifaces, maps, wideKeys, modest, calm, conditions, laid).
  DERIVED. THE GIVEN ROWS OF THIS SEAT. 6 by the template 'for every input the law returns true; each argument reads behind the call as it read before'; 0 by the template 'total and deterministic' (their statements: YtlfffglkpijjdaaTotals.lean).
  GIVEN WITH THE SEED: the statements are not yours to turn. If you find one false, say at which input.
  Laid BY PROGRAM, IN A SANDBOX (cutbox-rows.mjs): the forced cells as the released guide's own fill.sh prints them over the translation 700fbb4b543f6cdb… (all of the seat's roots in one cut). By AI agents, Wed Nov 11 2026. No macro, syntax, notation, axiom, sorry.
-/
import Derived.Test.YtlfffglkpijjdaaChecked
import GoSem.Claim
import GoSem.ClaimJoined
import GoSem.ClaimMapViews
import Derived.JoinedTies
import Derived.KernelRfl
namespace Go.Proofs.Ytlfffglkpijjdaa
/- THE CELL 'sum', in the pinned program and in every row, IS THE sha256 OF THE DUMP (.gsa) THAT YtlfffglkpijjdaaProg.lean LOADS. Nothing in Lean hashes anything: it is a label: what it is worth is what the hold of that sum in a sandbox is worth. -/
noncomputable def Try.pinned : Pinned := { name := "ytlfffglkpijjdaa", sum := "700fbb4b543f6cdb15b058b87f836b8aaf33e97d4b0d8694181a5050aac8566c", checked := Try.checked }
namespace Rows
def none {H : Type} : Left H := { results := [], args := [] }

/-- 'laws.FnExactMulGf': WHATEVER THE INPUT: true; the input reads as it did. -/
def fnExactMulGfSpec : ChangeSpec := { name := "fnExactMulGf", fn := fun _ => fun
  | [d1, d2] => { results := [.lit (.bool true)], args := [d1, d2] }
  | _ => none }
def fnExactMulGfRow : OpenClaim := { program := "ytlfffglkpijjdaa", sum := "700fbb4b543f6cdb15b058b87f836b8aaf33e97d4b0d8694181a5050aac8566c", func := "loop.example/g00206/laws.FnExactMulGf", spec := "fnExactMulGf", apart := false }
def FnExactMulGfSaid : Prop := fnExactMulGfRow.holds Try.pinned (OpenSpec.ofChange fnExactMulGfSpec)

/-- ITS FALSE NEIGHBOUR: 'it returns false'. Refute it at one input. -/
def fnExactMulGfWrong : ChangeSpec := { name := "fnExactMulGf", fn := fun _ => fun
  | [d1, d2] => { results := [.lit (.bool false)], args := [d1, d2] }
  | _ => none }
def FnExactMulGfWrongFalsely : Prop := fnExactMulGfRow.holds Try.pinned (OpenSpec.ofChange fnExactMulGfWrong)

/-- 'laws.FnExactInverseGf': WHATEVER THE INPUT: true; the input reads as it did. -/
def fnExactInverseGfSpec : ChangeSpec := { name := "fnExactInverseGf", fn := fun _ => fun
  | [d] => { results := [.lit (.bool true)], args := [d] }
  | _ => none }
def fnExactInverseGfRow : OpenClaim := { program := "ytlfffglkpijjdaa", sum := "700fbb4b543f6cdb15b058b87f836b8aaf33e97d4b0d8694181a5050aac8566c", func := "loop.example/g00206/laws.FnExactInverseGf", spec := "fnExactInverseGf", apart := false }
def FnExactInverseGfSaid : Prop := fnExactInverseGfRow.holds Try.pinned (OpenSpec.ofChange fnExactInverseGfSpec)

/-- ITS FALSE NEIGHBOUR: 'it returns false'. Refute it at one input. -/
def fnExactInverseGfWrong : ChangeSpec := { name := "fnExactInverseGf", fn := fun _ => fun
  | [d] => { results := [.lit (.bool false)], args := [d] }
  | _ => none }
def FnExactInverseGfWrongFalsely : Prop := fnExactInverseGfRow.holds Try.pinned (OpenSpec.ofChange fnExactInverseGfWrong)

/-- 'laws.FnExactSubByte': WHATEVER THE INPUT: true; the input reads as it did. -/
def fnExactSubByteSpec : ChangeSpec := { name := "fnExactSubByte", fn := fun _ => fun
  | [d] => { results := [.lit (.bool true)], args := [d] }
  | _ => none }
def fnExactSubByteRow : OpenClaim := { program := "ytlfffglkpijjdaa", sum := "700fbb4b543f6cdb15b058b87f836b8aaf33e97d4b0d8694181a5050aac8566c", func := "loop.example/g00206/laws.FnExactSubByte", spec := "fnExactSubByte", apart := false }
def FnExactSubByteSaid : Prop := fnExactSubByteRow.holds Try.pinned (OpenSpec.ofChange fnExactSubByteSpec)

/-- ITS FALSE NEIGHBOUR: 'it returns false'. Refute it at one input. -/
def fnExactSubByteWrong : ChangeSpec := { name := "fnExactSubByte", fn := fun _ => fun
  | [d] => { results := [.lit (.bool false)], args := [d] }
  | _ => none }
def FnExactSubByteWrongFalsely : Prop := fnExactSubByteRow.holds Try.pinned (OpenSpec.ofChange fnExactSubByteWrong)

/-- 'laws.FnExactUnsubByte': WHATEVER THE INPUT: true; the input reads as it did. -/
def fnExactUnsubByteSpec : ChangeSpec := { name := "fnExactUnsubByte", fn := fun _ => fun
  | [d] => { results := [.lit (.bool true)], args := [d] }
  | _ => none }
def fnExactUnsubByteRow : OpenClaim := { program := "ytlfffglkpijjdaa", sum := "700fbb4b543f6cdb15b058b87f836b8aaf33e97d4b0d8694181a5050aac8566c", func := "loop.example/g00206/laws.FnExactUnsubByte", spec := "fnExactUnsubByte", apart := false }
def FnExactUnsubByteSaid : Prop := fnExactUnsubByteRow.holds Try.pinned (OpenSpec.ofChange fnExactUnsubByteSpec)

/-- ITS FALSE NEIGHBOUR: 'it returns false'. Refute it at one input. -/
def fnExactUnsubByteWrong : ChangeSpec := { name := "fnExactUnsubByte", fn := fun _ => fun
  | [d] => { results := [.lit (.bool false)], args := [d] }
  | _ => none }
def FnExactUnsubByteWrongFalsely : Prop := fnExactUnsubByteRow.holds Try.pinned (OpenSpec.ofChange fnExactUnsubByteWrong)

/-- 'laws.FnExactMixColumn': WHATEVER THE INPUT: true; the input reads as it did. -/
def fnExactMixColumnSpec : ChangeSpec := { name := "fnExactMixColumn", fn := fun _ => fun
  | [d] => { results := [.lit (.bool true)], args := [d] }
  | _ => none }
def fnExactMixColumnRow : OpenClaim := { program := "ytlfffglkpijjdaa", sum := "700fbb4b543f6cdb15b058b87f836b8aaf33e97d4b0d8694181a5050aac8566c", func := "loop.example/g00206/laws.FnExactMixColumn", spec := "fnExactMixColumn", apart := false }
def FnExactMixColumnSaid : Prop := fnExactMixColumnRow.holds Try.pinned (OpenSpec.ofChange fnExactMixColumnSpec)

/-- ITS FALSE NEIGHBOUR: 'it returns false'. Refute it at one input. -/
def fnExactMixColumnWrong : ChangeSpec := { name := "fnExactMixColumn", fn := fun _ => fun
  | [d] => { results := [.lit (.bool false)], args := [d] }
  | _ => none }
def FnExactMixColumnWrongFalsely : Prop := fnExactMixColumnRow.holds Try.pinned (OpenSpec.ofChange fnExactMixColumnWrong)

/-- 'laws.FnExactRoundKeys': WHATEVER THE INPUT: true; the input reads as it did. -/
def fnExactRoundKeysSpec : ChangeSpec := { name := "fnExactRoundKeys", fn := fun _ => fun
  | [d] => { results := [.lit (.bool true)], args := [d] }
  | _ => none }
def fnExactRoundKeysRow : OpenClaim := { program := "ytlfffglkpijjdaa", sum := "700fbb4b543f6cdb15b058b87f836b8aaf33e97d4b0d8694181a5050aac8566c", func := "loop.example/g00206/laws.FnExactRoundKeys", spec := "fnExactRoundKeys", apart := false }
def FnExactRoundKeysSaid : Prop := fnExactRoundKeysRow.holds Try.pinned (OpenSpec.ofChange fnExactRoundKeysSpec)

/-- ITS FALSE NEIGHBOUR: 'it returns false'. Refute it at one input. -/
def fnExactRoundKeysWrong : ChangeSpec := { name := "fnExactRoundKeys", fn := fun _ => fun
  | [d] => { results := [.lit (.bool false)], args := [d] }
  | _ => none }
def FnExactRoundKeysWrongFalsely : Prop := fnExactRoundKeysRow.holds Try.pinned (OpenSpec.ofChange fnExactRoundKeysWrong)

/- THE SECOND FORM. 'bulk': how many values and letters a reading holds, each counted each time it is reached (what is shared counts as often as it is met; a slice's spare places count too). A statement '..UptoSaid' is the law's where the arguments, and the package variables that the reading takes, are together of bulk at most 1048576: NARROWER than '..Said'. Prove '..Said' where nothing that the law and all that it calls make is longer than what came in: it says more and counts as full. Else prove '..UptoSaid'. A law counts once. -/
mutual
def uptoBulk {H : Type} : DataW H → Nat
  | .lit (.string bytes) => bytes.length + 1
  | .lit _ => 1
  | .nil => 1
  | .ptr d => uptoBulk d + 1
  | .slice elems spare => uptoBulkAll elems + uptoBulkAll spare + 1
  | .agg parts => uptoBulkAll parts + 1
  | .iface _ d => uptoBulk d + 1
  | .map entries => uptoBulkEntries entries + 1
  | .held _ => 1
def uptoBulkAll {H : Type} : List (DataW H) → Nat
  | [] => 0
  | d :: r => uptoBulk d + uptoBulkAll r
def uptoBulkEntries {H : Type} : List (Lit × DataW H) → Nat
  | [] => 0
  | x :: r => uptoBulkEntry x + uptoBulkEntries r
def uptoBulkEntry {H : Type} : Lit × DataW H → Nat
  | (.string bytes, d) => bytes.length + uptoBulk d + 1
  | (_, d) => uptoBulk d + 1
 end
def uptoSmall : (H : Type) → List (DataW H) → Bool := fun _ ds => decide (uptoBulkAll ds ≤ 1048576)
def OpenSpec.upto (s : _root_.Go.ChangeSpec) : _root_.Go.OpenSpec := { _root_.Go.OpenSpec.ofChange s with cond := some uptoSmall }

/-- 'laws.FnExactMulGf', WHERE WHAT IT READS IS OF BULK AT MOST 1048576: true; the input reads as it did. -/
def fnExactMulGfUptoRow : OpenClaim := { program := "ytlfffglkpijjdaa", sum := "700fbb4b543f6cdb15b058b87f836b8aaf33e97d4b0d8694181a5050aac8566c", func := "loop.example/g00206/laws.FnExactMulGf", spec := "fnExactMulGf", apart := false, narrowed := true }
def FnExactMulGfUptoSaid : Prop := fnExactMulGfUptoRow.holds Try.pinned (OpenSpec.upto fnExactMulGfSpec)

/-- 'laws.FnExactInverseGf', WHERE WHAT IT READS IS OF BULK AT MOST 1048576: true; the input reads as it did. -/
def fnExactInverseGfUptoRow : OpenClaim := { program := "ytlfffglkpijjdaa", sum := "700fbb4b543f6cdb15b058b87f836b8aaf33e97d4b0d8694181a5050aac8566c", func := "loop.example/g00206/laws.FnExactInverseGf", spec := "fnExactInverseGf", apart := false, narrowed := true }
def FnExactInverseGfUptoSaid : Prop := fnExactInverseGfUptoRow.holds Try.pinned (OpenSpec.upto fnExactInverseGfSpec)

/-- 'laws.FnExactSubByte', WHERE WHAT IT READS IS OF BULK AT MOST 1048576: true; the input reads as it did. -/
def fnExactSubByteUptoRow : OpenClaim := { program := "ytlfffglkpijjdaa", sum := "700fbb4b543f6cdb15b058b87f836b8aaf33e97d4b0d8694181a5050aac8566c", func := "loop.example/g00206/laws.FnExactSubByte", spec := "fnExactSubByte", apart := false, narrowed := true }
def FnExactSubByteUptoSaid : Prop := fnExactSubByteUptoRow.holds Try.pinned (OpenSpec.upto fnExactSubByteSpec)

/-- 'laws.FnExactUnsubByte', WHERE WHAT IT READS IS OF BULK AT MOST 1048576: true; the input reads as it did. -/
def fnExactUnsubByteUptoRow : OpenClaim := { program := "ytlfffglkpijjdaa", sum := "700fbb4b543f6cdb15b058b87f836b8aaf33e97d4b0d8694181a5050aac8566c", func := "loop.example/g00206/laws.FnExactUnsubByte", spec := "fnExactUnsubByte", apart := false, narrowed := true }
def FnExactUnsubByteUptoSaid : Prop := fnExactUnsubByteUptoRow.holds Try.pinned (OpenSpec.upto fnExactUnsubByteSpec)

/-- 'laws.FnExactMixColumn', WHERE WHAT IT READS IS OF BULK AT MOST 1048576: true; the input reads as it did. -/
def fnExactMixColumnUptoRow : OpenClaim := { program := "ytlfffglkpijjdaa", sum := "700fbb4b543f6cdb15b058b87f836b8aaf33e97d4b0d8694181a5050aac8566c", func := "loop.example/g00206/laws.FnExactMixColumn", spec := "fnExactMixColumn", apart := false, narrowed := true }
def FnExactMixColumnUptoSaid : Prop := fnExactMixColumnUptoRow.holds Try.pinned (OpenSpec.upto fnExactMixColumnSpec)

/-- 'laws.FnExactRoundKeys', WHERE WHAT IT READS IS OF BULK AT MOST 1048576: true; the input reads as it did. -/
def fnExactRoundKeysUptoRow : OpenClaim := { program := "ytlfffglkpijjdaa", sum := "700fbb4b543f6cdb15b058b87f836b8aaf33e97d4b0d8694181a5050aac8566c", func := "loop.example/g00206/laws.FnExactRoundKeys", spec := "fnExactRoundKeys", apart := false, narrowed := true }
def FnExactRoundKeysUptoSaid : Prop := fnExactRoundKeysUptoRow.holds Try.pinned (OpenSpec.upto fnExactRoundKeysSpec)

end Rows
end Go.Proofs.Ytlfffglkpijjdaa
