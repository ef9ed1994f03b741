/-
  No cell of these rows narrows 'for every input' (looked for: loops, veiled, ifaces, maps, wideKeys, modest, calm, conditions, laid).
  DERIVED. THE GIVEN ROWS OF THIS SEAT. 3 by the template 'for every input the law returns true; each argument reads behind the call as it read before'; 0 by the template 'total and deterministic' (their statements: YtooojkedphlknaaTotals.lean).
  GIVEN WITH THE SEED: the statements are not yours to turn. If you find one false, say at which input.
  Laid BY PROGRAM, IN A SANDBOX (cutbox-rows.mjs): the forced cells as the released guide's own fill.sh prints them over the translation 1017c449dd5094a7… (all of the seat's roots in one cut). By AI agents, Wed Nov 11 2026. No macro, syntax, notation, axiom, sorry.
-/
import Derived.Test.YtooojkedphlknaaChecked
import GoSem.Claim
import GoSem.ClaimJoined
import GoSem.ClaimMapViews
import Derived.JoinedTies
import Derived.KernelRfl
namespace Go.Proofs.Ytooojkedphlknaa
/- THE CELL 'sum', in the pinned program and in every row, IS THE sha256 OF THE DUMP (.gsa) THAT YtooojkedphlknaaProg.lean LOADS. Nothing in Lean hashes anything: it is a label: what it is worth is what the hold of that sum in a sandbox is worth. -/
noncomputable def Try.pinned : Pinned := { name := "ytooojkedphlknaa", sum := "1017c449dd5094a72e12a86fbdbe7c0c14e015d35efbb85e622600b9ed2c5d92", checked := Try.checked }
namespace Rows
def none {H : Type} : Left H := { results := [], args := [] }

/-- 'laws.FnExactGoodConfig': WHATEVER THE INPUT: true; the input reads as it did. -/
def fnExactGoodConfigSpec : ChangeSpec := { name := "fnExactGoodConfig", fn := fun _ => fun
  | [d] => { results := [.lit (.bool true)], args := [d] }
  | _ => none }
def fnExactGoodConfigRow : OpenClaim := { program := "ytooojkedphlknaa", sum := "1017c449dd5094a72e12a86fbdbe7c0c14e015d35efbb85e622600b9ed2c5d92", func := "loop.example/g00206/laws.FnExactGoodConfig", spec := "fnExactGoodConfig", apart := false }
def FnExactGoodConfigSaid : Prop := fnExactGoodConfigRow.holds Try.pinned (OpenSpec.ofChange fnExactGoodConfigSpec)

/-- ITS FALSE NEIGHBOUR: 'it returns false'. Refute it at one input. -/
def fnExactGoodConfigWrong : ChangeSpec := { name := "fnExactGoodConfig", fn := fun _ => fun
  | [d] => { results := [.lit (.bool false)], args := [d] }
  | _ => none }
def FnExactGoodConfigWrongFalsely : Prop := fnExactGoodConfigRow.holds Try.pinned (OpenSpec.ofChange fnExactGoodConfigWrong)

/-- 'laws.FnExactKindOf': WHATEVER THE INPUT: true; the input reads as it did. -/
def fnExactKindOfSpec : ChangeSpec := { name := "fnExactKindOf", fn := fun _ => fun
  | [d] => { results := [.lit (.bool true)], args := [d] }
  | _ => none }
def fnExactKindOfRow : OpenClaim := { program := "ytooojkedphlknaa", sum := "1017c449dd5094a72e12a86fbdbe7c0c14e015d35efbb85e622600b9ed2c5d92", func := "loop.example/g00206/laws.FnExactKindOf", spec := "fnExactKindOf", apart := false }
def FnExactKindOfSaid : Prop := fnExactKindOfRow.holds Try.pinned (OpenSpec.ofChange fnExactKindOfSpec)

/-- ITS FALSE NEIGHBOUR: 'it returns false'. Refute it at one input. -/
def fnExactKindOfWrong : ChangeSpec := { name := "fnExactKindOf", fn := fun _ => fun
  | [d] => { results := [.lit (.bool false)], args := [d] }
  | _ => none }
def FnExactKindOfWrongFalsely : Prop := fnExactKindOfRow.holds Try.pinned (OpenSpec.ofChange fnExactKindOfWrong)

/-- 'laws.FnExactHalfBlock': WHATEVER THE INPUT: true; the input reads as it did. -/
def fnExactHalfBlockSpec : ChangeSpec := { name := "fnExactHalfBlock", fn := fun _ => fun
  | [d1, d2, d3] => { results := [.lit (.bool true)], args := [d1, d2, d3] }
  | _ => none }
def fnExactHalfBlockRow : OpenClaim := { program := "ytooojkedphlknaa", sum := "1017c449dd5094a72e12a86fbdbe7c0c14e015d35efbb85e622600b9ed2c5d92", func := "loop.example/g00206/laws.FnExactHalfBlock", spec := "fnExactHalfBlock", apart := false }
def FnExactHalfBlockSaid : Prop := fnExactHalfBlockRow.holds Try.pinned (OpenSpec.ofChange fnExactHalfBlockSpec)

/-- ITS FALSE NEIGHBOUR: 'it returns false'. Refute it at one input. -/
def fnExactHalfBlockWrong : ChangeSpec := { name := "fnExactHalfBlock", fn := fun _ => fun
  | [d1, d2, d3] => { results := [.lit (.bool false)], args := [d1, d2, d3] }
  | _ => none }
def FnExactHalfBlockWrongFalsely : Prop := fnExactHalfBlockRow.holds Try.pinned (OpenSpec.ofChange fnExactHalfBlockWrong)

/- THE SECOND FORM. 'bulk': how many values and letters a reading holds, each counted each time it is reached (what is shared counts as often as it is met; a slice's spare places count too). A statement '..UptoSaid' is the law's where the arguments, and the package variables that the reading takes, are together of bulk at most 1048576: NARROWER than '..Said'. Prove '..Said' where nothing that the law and all that it calls make is longer than what came in: it says more and counts as full. Else prove '..UptoSaid'. A law counts once. -/
mutual
def uptoBulk {H : Type} : DataW H → Nat
  | .lit (.string bytes) => bytes.length + 1
  | .lit _ => 1
  | .nil => 1
  | .ptr d => uptoBulk d + 1
  | .slice elems spare => uptoBulkAll elems + uptoBulkAll spare + 1
  | .agg parts => uptoBulkAll parts + 1
  | .iface _ d => uptoBulk d + 1
  | .map entries => uptoBulkEntries entries + 1
  | .held _ => 1
def uptoBulkAll {H : Type} : List (DataW H) → Nat
  | [] => 0
  | d :: r => uptoBulk d + uptoBulkAll r
def uptoBulkEntries {H : Type} : List (Lit × DataW H) → Nat
  | [] => 0
  | x :: r => uptoBulkEntry x + uptoBulkEntries r
def uptoBulkEntry {H : Type} : Lit × DataW H → Nat
  | (.string bytes, d) => bytes.length + uptoBulk d + 1
  | (_, d) => uptoBulk d + 1
 end
def uptoSmall : (H : Type) → List (DataW H) → Bool := fun _ ds => decide (uptoBulkAll ds ≤ 1048576)
def OpenSpec.upto (s : _root_.Go.ChangeSpec) : _root_.Go.OpenSpec := { _root_.Go.OpenSpec.ofChange s with cond := some uptoSmall }

/-- 'laws.FnExactGoodConfig', WHERE WHAT IT READS IS OF BULK AT MOST 1048576: true; the input reads as it did. -/
def fnExactGoodConfigUptoRow : OpenClaim := { program := "ytooojkedphlknaa", sum := "1017c449dd5094a72e12a86fbdbe7c0c14e015d35efbb85e622600b9ed2c5d92", func := "loop.example/g00206/laws.FnExactGoodConfig", spec := "fnExactGoodConfig", apart := false, narrowed := true }
def FnExactGoodConfigUptoSaid : Prop := fnExactGoodConfigUptoRow.holds Try.pinned (OpenSpec.upto fnExactGoodConfigSpec)

/-- 'laws.FnExactKindOf', WHERE WHAT IT READS IS OF BULK AT MOST 1048576: true; the input reads as it did. -/
def fnExactKindOfUptoRow : OpenClaim := { program := "ytooojkedphlknaa", sum := "1017c449dd5094a72e12a86fbdbe7c0c14e015d35efbb85e622600b9ed2c5d92", func := "loop.example/g00206/laws.FnExactKindOf", spec := "fnExactKindOf", apart := false, narrowed := true }
def FnExactKindOfUptoSaid : Prop := fnExactKindOfUptoRow.holds Try.pinned (OpenSpec.upto fnExactKindOfSpec)

/-- 'laws.FnExactHalfBlock', WHERE WHAT IT READS IS OF BULK AT MOST 1048576: true; the input reads as it did. -/
def fnExactHalfBlockUptoRow : OpenClaim := { program := "ytooojkedphlknaa", sum := "1017c449dd5094a72e12a86fbdbe7c0c14e015d35efbb85e622600b9ed2c5d92", func := "loop.example/g00206/laws.FnExactHalfBlock", spec := "fnExactHalfBlock", apart := false, narrowed := true }
def FnExactHalfBlockUptoSaid : Prop := fnExactHalfBlockUptoRow.holds Try.pinned (OpenSpec.upto fnExactHalfBlockSpec)

end Rows
end Go.Proofs.Ytooojkedphlknaa
