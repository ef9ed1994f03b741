/-
  NARROWER THAN 'FOR EVERY INPUT', by the rows' own cells (each row's printed sentence says how): FnExactReadFields: laid · FnFields: laid.
  DERIVED. THE GIVEN ROWS OF THIS SEAT. 2 by the template 'for every input the law returns true; each argument reads behind the call as it read before'; 0 by the template 'total and deterministic' (their statements: YtidgjjbdabifnabDoorTotals.lean).
  GIVEN WITH THE SEED: the statements are not yours to turn. If you find one false, say at which input.
  Laid BY PROGRAM, IN A SANDBOX (cutbox-rows.mjs): the forced cells as the released guide's own fill.sh prints them over the translation fcc480e01a156e60… (all of the seat's roots in one cut). By AI agents, Wed Nov 11 2026. No macro, syntax, notation, axiom, sorry.
-/
import Derived.Test.YtidgjjbdabifnabDoorChecked
import GoSem.Claim
import GoSem.ClaimJoined
import GoSem.ClaimMapViews
import Derived.JoinedTies
import Derived.KernelRfl
namespace Go.Proofs.YtidgjjbdabifnabDoor
/- THE CELL 'sum', in the pinned program and in every row, IS THE sha256 OF THE DUMP (.gsa) THAT YtidgjjbdabifnabDoorProg.lean LOADS. Nothing in Lean hashes anything: it is a label: what it is worth is what the hold of that sum in a sandbox is worth. -/
noncomputable def Tryd.pinned : Pinned := { name := "ytidgjjbdabifnabdoor", sum := "fcc480e01a156e601d99d1573f22d654a95abb60e4464361c2e1cd913ba36970", checked := Tryd.checked }
namespace Rows
def none {H : Type} : Left H := { results := [], args := [] }

/- WHAT THE LISTED PACKAGE-LEVEL VARIABLES READ AS WHEN THE CALL BEGINS. Each datum BY PROGRAM (the guide's laid-datum.mjs) off the statement by which the dump's own 'gosem.cut.vars' lays the variable. In a bare row this is a premise. The card (YtidgjjbdabifnabDoorCards.lean) ties it to the program's text. -/
def laid_loop_example_g00206_impl_staticFields {H : Type} : DataW H := .agg [.agg [.lit (.string [58, 97, 117, 116, 104, 111, 114, 105, 116, 121]), .lit (.string [])], .agg [.lit (.string [58, 112, 97, 116, 104]), .lit (.string [47])], .agg [.lit (.string [58, 109, 101, 116, 104, 111, 100]), .lit (.string [67, 79, 78, 78, 69, 67, 84])], .agg [.lit (.string [58, 109, 101, 116, 104, 111, 100]), .lit (.string [71, 69, 84])], .agg [.lit (.string [58, 109, 101, 116, 104, 111, 100]), .lit (.string [80, 79, 83, 84])], .agg [.lit (.string [58, 115, 99, 104, 101, 109, 101]), .lit (.string [104, 116, 116, 112])], .agg [.lit (.string [58, 115, 99, 104, 101, 109, 101]), .lit (.string [104, 116, 116, 112, 115])], .agg [.lit (.string [58, 115, 116, 97, 116, 117, 115]), .lit (.string [50, 48, 48])], .agg [.lit (.string [58, 115, 116, 97, 116, 117, 115]), .lit (.string [52, 48, 52])], .agg [.lit (.string [58, 115, 116, 97, 116, 117, 115]), .lit (.string [53, 48, 51])], .agg [.lit (.string [58, 112, 114, 111, 116, 111, 99, 111, 108]), .lit (.string [99, 111, 110, 110, 101, 99, 116, 45, 117, 100, 112])], .agg [.lit (.string [99, 97, 112, 115, 117, 108, 101, 45, 112, 114, 111, 116, 111, 99, 111, 108]), .lit (.string [63, 49])], .agg [.lit (.string [99, 111, 110, 116, 101, 110, 116, 45, 108, 101, 110, 103, 116, 104]), .lit (.string [48])], .agg [.lit (.string [100, 97, 116, 101]), .lit (.string [])], .agg [.lit (.string [117, 115, 101, 114, 45, 97, 103, 101, 110, 116]), .lit (.string [])], .agg [.lit (.string [97, 99, 99, 101, 112, 116]), .lit (.string [42, 47, 42])]]

/-- 'laws.FnExactReadFields': WHATEVER THE INPUT: true; the input reads as it did. -/
def fnExactReadFieldsSpec : ChangeSpec := { name := "fnExactReadFields", vars := ["loop.example/g00206/impl.staticFields"], fn := fun _ => fun
  | [d, g1] => { results := [.lit (.bool true)], args := [d], vars := [g1] }
  | _ => none }
def fnExactReadFieldsRow : OpenClaim := { program := "ytidgjjbdabifnabdoor", sum := "fcc480e01a156e601d99d1573f22d654a95abb60e4464361c2e1cd913ba36970", func := "loop.example/g00206/laws.FnExactReadFields", spec := "fnExactReadFields", unfollowed := true, recurses := true, named := ["loop.example/g00206/impl.staticFields"], apart := false, laid := [("loop.example/g00206/impl.staticFields", laid_loop_example_g00206_impl_staticFields)] }
def FnExactReadFieldsSaid : Prop := fnExactReadFieldsRow.holds Tryd.pinned (OpenSpec.ofChange fnExactReadFieldsSpec)

/-- ITS FALSE NEIGHBOUR: 'it returns false'. Refute it at one input. -/
def fnExactReadFieldsWrong : ChangeSpec := { name := "fnExactReadFields", vars := ["loop.example/g00206/impl.staticFields"], fn := fun _ => fun
  | [d, g1] => { results := [.lit (.bool false)], args := [d], vars := [g1] }
  | _ => none }
def FnExactReadFieldsWrongFalsely : Prop := fnExactReadFieldsRow.holds Tryd.pinned (OpenSpec.ofChange fnExactReadFieldsWrong)

/-- 'laws.FnFields': WHATEVER THE INPUT: true; the input reads as it did. -/
def fnFieldsSpec : ChangeSpec := { name := "fnFields", vars := ["loop.example/g00206/impl.staticFields"], fn := fun _ => fun
  | [d1, d2, g1] => { results := [.lit (.bool true)], args := [d1, d2], vars := [g1] }
  | _ => none }
def fnFieldsRow : OpenClaim := { program := "ytidgjjbdabifnabdoor", sum := "fcc480e01a156e601d99d1573f22d654a95abb60e4464361c2e1cd913ba36970", func := "loop.example/g00206/laws.FnFields", spec := "fnFields", unfollowed := true, recurses := true, named := ["loop.example/g00206/impl.staticFields"], apart := false, laid := [("loop.example/g00206/impl.staticFields", laid_loop_example_g00206_impl_staticFields)] }
def FnFieldsSaid : Prop := fnFieldsRow.holds Tryd.pinned (OpenSpec.ofChange fnFieldsSpec)

/-- ITS FALSE NEIGHBOUR: 'it returns false'. Refute it at one input. -/
def fnFieldsWrong : ChangeSpec := { name := "fnFields", vars := ["loop.example/g00206/impl.staticFields"], fn := fun _ => fun
  | [d1, d2, g1] => { results := [.lit (.bool false)], args := [d1, d2], vars := [g1] }
  | _ => none }
def FnFieldsWrongFalsely : Prop := fnFieldsRow.holds Tryd.pinned (OpenSpec.ofChange fnFieldsWrong)

/- THE SECOND FORM. 'bulk': how many values and letters a reading holds, each counted each time it is reached (what is shared counts as often as it is met; a slice's spare places count too). A statement '..UptoSaid' is the law's where the arguments, and the package variables that the reading takes, are together of bulk at most 1048576: NARROWER than '..Said'. Prove '..Said' where nothing that the law and all that it calls make is longer than what came in: it says more and counts as full. Else prove '..UptoSaid'. A law counts once. -/
mutual
def uptoBulk {H : Type} : DataW H → Nat
  | .lit (.string bytes) => bytes.length + 1
  | .lit _ => 1
  | .nil => 1
  | .ptr d => uptoBulk d + 1
  | .slice elems spare => uptoBulkAll elems + uptoBulkAll spare + 1
  | .agg parts => uptoBulkAll parts + 1
  | .iface _ d => uptoBulk d + 1
  | .map entries => uptoBulkEntries entries + 1
  | .held _ => 1
def uptoBulkAll {H : Type} : List (DataW H) → Nat
  | [] => 0
  | d :: r => uptoBulk d + uptoBulkAll r
def uptoBulkEntries {H : Type} : List (Lit × DataW H) → Nat
  | [] => 0
  | x :: r => uptoBulkEntry x + uptoBulkEntries r
def uptoBulkEntry {H : Type} : Lit × DataW H → Nat
  | (.string bytes, d) => bytes.length + uptoBulk d + 1
  | (_, d) => uptoBulk d + 1
 end
def uptoSmall : (H : Type) → List (DataW H) → Bool := fun _ ds => decide (uptoBulkAll ds ≤ 1048576)
def OpenSpec.upto (s : _root_.Go.ChangeSpec) : _root_.Go.OpenSpec := { _root_.Go.OpenSpec.ofChange s with cond := some uptoSmall }

/-- 'laws.FnExactReadFields', WHERE WHAT IT READS IS OF BULK AT MOST 1048576: true; the input reads as it did. -/
def fnExactReadFieldsUptoRow : OpenClaim := { program := "ytidgjjbdabifnabdoor", sum := "fcc480e01a156e601d99d1573f22d654a95abb60e4464361c2e1cd913ba36970", func := "loop.example/g00206/laws.FnExactReadFields", spec := "fnExactReadFields", unfollowed := true, recurses := true, named := ["loop.example/g00206/impl.staticFields"], apart := false, laid := [("loop.example/g00206/impl.staticFields", laid_loop_example_g00206_impl_staticFields)], narrowed := true }
def FnExactReadFieldsUptoSaid : Prop := fnExactReadFieldsUptoRow.holds Tryd.pinned (OpenSpec.upto fnExactReadFieldsSpec)

/-- 'laws.FnFields', WHERE WHAT IT READS IS OF BULK AT MOST 1048576: true; the input reads as it did. -/
def fnFieldsUptoRow : OpenClaim := { program := "ytidgjjbdabifnabdoor", sum := "fcc480e01a156e601d99d1573f22d654a95abb60e4464361c2e1cd913ba36970", func := "loop.example/g00206/laws.FnFields", spec := "fnFields", unfollowed := true, recurses := true, named := ["loop.example/g00206/impl.staticFields"], apart := false, laid := [("loop.example/g00206/impl.staticFields", laid_loop_example_g00206_impl_staticFields)], narrowed := true }
def FnFieldsUptoSaid : Prop := fnFieldsUptoRow.holds Tryd.pinned (OpenSpec.upto fnFieldsSpec)

end Rows
end Go.Proofs.YtidgjjbdabifnabDoor
