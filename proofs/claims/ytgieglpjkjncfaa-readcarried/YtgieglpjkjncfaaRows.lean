/-
  No cell of these rows narrows 'for every input' (looked for: loops, veiled, ifaces, maps, wideKeys, modest, calm, conditions, laid).
  DERIVED. THE GIVEN ROWS OF THIS SEAT. 4 by the template 'for every input the law returns true; each argument reads behind the call as it read before'; 0 by the template 'total and deterministic' (their statements: YtgieglpjkjncfaaTotals.lean).
  GIVEN WITH THE SEED: the statements are not yours to turn. If you find one false, say at which input.
  Laid BY PROGRAM, IN A SANDBOX (cutbox-rows.mjs): the forced cells as the released guide's own fill.sh prints them over the translation 04eed2bf3c784e67… (all of the seat's roots in one cut). By AI agents, Wed Nov 11 2026. No macro, syntax, notation, axiom, sorry.
-/
import Derived.Test.YtgieglpjkjncfaaChecked
import GoSem.Claim
import GoSem.ClaimJoined
import GoSem.ClaimMapViews
import Derived.JoinedTies
import Derived.KernelRfl
namespace Go.Proofs.Ytgieglpjkjncfaa
/- THE CELL 'sum', in the pinned program and in every row, IS THE sha256 OF THE DUMP (.gsa) THAT YtgieglpjkjncfaaProg.lean LOADS. Nothing in Lean hashes anything: it is a label: what it is worth is what the hold of that sum in a sandbox is worth. -/
noncomputable def Try.pinned : Pinned := { name := "ytgieglpjkjncfaa", sum := "04eed2bf3c784e678d753436031aec5bb686b8033a1592315a503d8e51c271c1", checked := Try.checked }
namespace Rows
def none {H : Type} : Left H := { results := [], args := [] }

/-- 'laws.FnExactReadCapsules': WHATEVER THE INPUT: true; the input reads as it did. -/
def fnExactReadCapsulesSpec : ChangeSpec := { name := "fnExactReadCapsules", fn := fun _ => fun
  | [d] => { results := [.lit (.bool true)], args := [d] }
  | _ => none }
def fnExactReadCapsulesRow : OpenClaim := { program := "ytgieglpjkjncfaa", sum := "04eed2bf3c784e678d753436031aec5bb686b8033a1592315a503d8e51c271c1", func := "loop.example/g00206/laws.FnExactReadCapsules", spec := "fnExactReadCapsules", unfollowed := true, recurses := true, apart := false }
def FnExactReadCapsulesSaid : Prop := fnExactReadCapsulesRow.holds Try.pinned (OpenSpec.ofChange fnExactReadCapsulesSpec)

/-- ITS FALSE NEIGHBOUR: 'it returns false'. Refute it at one input. -/
def fnExactReadCapsulesWrong : ChangeSpec := { name := "fnExactReadCapsules", fn := fun _ => fun
  | [d] => { results := [.lit (.bool false)], args := [d] }
  | _ => none }
def FnExactReadCapsulesWrongFalsely : Prop := fnExactReadCapsulesRow.holds Try.pinned (OpenSpec.ofChange fnExactReadCapsulesWrong)

/-- 'laws.FnExactKnownCapsules': WHATEVER THE INPUT: true; the input reads as it did. -/
def fnExactKnownCapsulesSpec : ChangeSpec := { name := "fnExactKnownCapsules", fn := fun _ => fun
  | [d] => { results := [.lit (.bool true)], args := [d] }
  | _ => none }
def fnExactKnownCapsulesRow : OpenClaim := { program := "ytgieglpjkjncfaa", sum := "04eed2bf3c784e678d753436031aec5bb686b8033a1592315a503d8e51c271c1", func := "loop.example/g00206/laws.FnExactKnownCapsules", spec := "fnExactKnownCapsules", apart := false }
def FnExactKnownCapsulesSaid : Prop := fnExactKnownCapsulesRow.holds Try.pinned (OpenSpec.ofChange fnExactKnownCapsulesSpec)

/-- ITS FALSE NEIGHBOUR: 'it returns false'. Refute it at one input. -/
def fnExactKnownCapsulesWrong : ChangeSpec := { name := "fnExactKnownCapsules", fn := fun _ => fun
  | [d] => { results := [.lit (.bool false)], args := [d] }
  | _ => none }
def FnExactKnownCapsulesWrongFalsely : Prop := fnExactKnownCapsulesRow.holds Try.pinned (OpenSpec.ofChange fnExactKnownCapsulesWrong)

/-- 'laws.FnExactGoodCarried': WHATEVER THE INPUT: true; the input reads as it did. -/
def fnExactGoodCarriedSpec : ChangeSpec := { name := "fnExactGoodCarried", fn := fun _ => fun
  | [d] => { results := [.lit (.bool true)], args := [d] }
  | _ => none }
def fnExactGoodCarriedRow : OpenClaim := { program := "ytgieglpjkjncfaa", sum := "04eed2bf3c784e678d753436031aec5bb686b8033a1592315a503d8e51c271c1", func := "loop.example/g00206/laws.FnExactGoodCarried", spec := "fnExactGoodCarried", apart := false }
def FnExactGoodCarriedSaid : Prop := fnExactGoodCarriedRow.holds Try.pinned (OpenSpec.ofChange fnExactGoodCarriedSpec)

/-- ITS FALSE NEIGHBOUR: 'it returns false'. Refute it at one input. -/
def fnExactGoodCarriedWrong : ChangeSpec := { name := "fnExactGoodCarried", fn := fun _ => fun
  | [d] => { results := [.lit (.bool false)], args := [d] }
  | _ => none }
def FnExactGoodCarriedWrongFalsely : Prop := fnExactGoodCarriedRow.holds Try.pinned (OpenSpec.ofChange fnExactGoodCarriedWrong)

/-- 'laws.FnExactReadCarried': WHATEVER THE INPUT: true; the input reads as it did. -/
def fnExactReadCarriedSpec : ChangeSpec := { name := "fnExactReadCarried", fn := fun _ => fun
  | [d] => { results := [.lit (.bool true)], args := [d] }
  | _ => none }
def fnExactReadCarriedRow : OpenClaim := { program := "ytgieglpjkjncfaa", sum := "04eed2bf3c784e678d753436031aec5bb686b8033a1592315a503d8e51c271c1", func := "loop.example/g00206/laws.FnExactReadCarried", spec := "fnExactReadCarried", unfollowed := true, recurses := true, apart := false }
def FnExactReadCarriedSaid : Prop := fnExactReadCarriedRow.holds Try.pinned (OpenSpec.ofChange fnExactReadCarriedSpec)

/-- ITS FALSE NEIGHBOUR: 'it returns false'. Refute it at one input. -/
def fnExactReadCarriedWrong : ChangeSpec := { name := "fnExactReadCarried", fn := fun _ => fun
  | [d] => { results := [.lit (.bool false)], args := [d] }
  | _ => none }
def FnExactReadCarriedWrongFalsely : Prop := fnExactReadCarriedRow.holds Try.pinned (OpenSpec.ofChange fnExactReadCarriedWrong)

/- THE SECOND FORM. 'bulk': how many values and letters a reading holds, each counted each time it is reached (what is shared counts as often as it is met; a slice's spare places count too). A statement '..UptoSaid' is the law's where the arguments, and the package variables that the reading takes, are together of bulk at most 1048576: NARROWER than '..Said'. Prove '..Said' where nothing that the law and all that it calls make is longer than what came in: it says more and counts as full. Else prove '..UptoSaid'. A law counts once. -/
mutual
def uptoBulk {H : Type} : DataW H → Nat
  | .lit (.string bytes) => bytes.length + 1
  | .lit _ => 1
  | .nil => 1
  | .ptr d => uptoBulk d + 1
  | .slice elems spare => uptoBulkAll elems + uptoBulkAll spare + 1
  | .agg parts => uptoBulkAll parts + 1
  | .iface _ d => uptoBulk d + 1
  | .map entries => uptoBulkEntries entries + 1
  | .held _ => 1
def uptoBulkAll {H : Type} : List (DataW H) → Nat
  | [] => 0
  | d :: r => uptoBulk d + uptoBulkAll r
def uptoBulkEntries {H : Type} : List (Lit × DataW H) → Nat
  | [] => 0
  | x :: r => uptoBulkEntry x + uptoBulkEntries r
def uptoBulkEntry {H : Type} : Lit × DataW H → Nat
  | (.string bytes, d) => bytes.length + uptoBulk d + 1
  | (_, d) => uptoBulk d + 1
 end
def uptoSmall : (H : Type) → List (DataW H) → Bool := fun _ ds => decide (uptoBulkAll ds ≤ 1048576)
def OpenSpec.upto (s : _root_.Go.ChangeSpec) : _root_.Go.OpenSpec := { _root_.Go.OpenSpec.ofChange s with cond := some uptoSmall }

/-- 'laws.FnExactReadCapsules', WHERE WHAT IT READS IS OF BULK AT MOST 1048576: true; the input reads as it did. -/
def fnExactReadCapsulesUptoRow : OpenClaim := { program := "ytgieglpjkjncfaa", sum := "04eed2bf3c784e678d753436031aec5bb686b8033a1592315a503d8e51c271c1", func := "loop.example/g00206/laws.FnExactReadCapsules", spec := "fnExactReadCapsules", unfollowed := true, recurses := true, apart := false, narrowed := true }
def FnExactReadCapsulesUptoSaid : Prop := fnExactReadCapsulesUptoRow.holds Try.pinned (OpenSpec.upto fnExactReadCapsulesSpec)

/-- 'laws.FnExactKnownCapsules', WHERE WHAT IT READS IS OF BULK AT MOST 1048576: true; the input reads as it did. -/
def fnExactKnownCapsulesUptoRow : OpenClaim := { program := "ytgieglpjkjncfaa", sum := "04eed2bf3c784e678d753436031aec5bb686b8033a1592315a503d8e51c271c1", func := "loop.example/g00206/laws.FnExactKnownCapsules", spec := "fnExactKnownCapsules", apart := false, narrowed := true }
def FnExactKnownCapsulesUptoSaid : Prop := fnExactKnownCapsulesUptoRow.holds Try.pinned (OpenSpec.upto fnExactKnownCapsulesSpec)

/-- 'laws.FnExactGoodCarried', WHERE WHAT IT READS IS OF BULK AT MOST 1048576: true; the input reads as it did. -/
def fnExactGoodCarriedUptoRow : OpenClaim := { program := "ytgieglpjkjncfaa", sum := "04eed2bf3c784e678d753436031aec5bb686b8033a1592315a503d8e51c271c1", func := "loop.example/g00206/laws.FnExactGoodCarried", spec := "fnExactGoodCarried", apart := false, narrowed := true }
def FnExactGoodCarriedUptoSaid : Prop := fnExactGoodCarriedUptoRow.holds Try.pinned (OpenSpec.upto fnExactGoodCarriedSpec)

/-- 'laws.FnExactReadCarried', WHERE WHAT IT READS IS OF BULK AT MOST 1048576: true; the input reads as it did. -/
def fnExactReadCarriedUptoRow : OpenClaim := { program := "ytgieglpjkjncfaa", sum := "04eed2bf3c784e678d753436031aec5bb686b8033a1592315a503d8e51c271c1", func := "loop.example/g00206/laws.FnExactReadCarried", spec := "fnExactReadCarried", unfollowed := true, recurses := true, apart := false, narrowed := true }
def FnExactReadCarriedUptoSaid : Prop := fnExactReadCarriedUptoRow.holds Try.pinned (OpenSpec.upto fnExactReadCarriedSpec)

end Rows
end Go.Proofs.Ytgieglpjkjncfaa
