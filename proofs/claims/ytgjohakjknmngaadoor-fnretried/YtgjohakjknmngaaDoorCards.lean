/-
  DERIVED. GIVEN WITH THE SEED: THE CARDS: each row of YtgjohakjknmngaaDoorRows.lean that lists a variable, with what it lists TIED to the program's text (the seventh form; the later family's looks); each row that meets fmt, with fmt's text TOLD by the authors' own Lean function (tested against real Go, not proved from fmt's source: count such statements apart). THE CARD IS WHAT COUNTS. Prove the row's statement (the work); the ties are given (YtgjohakjknmngaaDoorTie.lean); close each card by the builder's one call (the guide's Derived/Test/ToyasCard.lean, 'card_holds'). Laid BY PROGRAM, IN A SANDBOX (cutbox-door.mjs). By AI agents, Wed Nov 11 2026. No macro, syntax, notation, axiom, sorry.
-/
import Derived.Test.YtgjohakjknmngaaDoorRows
import GoSem.ClaimSeven
namespace Go.Proofs.YtgjohakjknmngaaDoor
namespace Rows

/-- THE TIED CARD OF 'laws.FnRetried'. -/
def fnRetriedCard : Claim7 := { stood := { row := fnRetriedRow, standIns := [], harness := (true, "e341bf4a5d0e2a59a3cf31e7431898d58811ea7e36dd5a51b2aa25452c98398a"), looks := true }, kinds := [], alts := [], laidByText := true, laidKinds := [.data, .data], laidTests := true, laidLooks := .later }
def FnRetriedCardSaid : Prop := Claim7.holds Tryd.pinned (.plain (OpenSpec.ofChange fnRetriedSpec)) fnRetriedCard

/-- THE SECOND FORM's CARD OF 'laws.FnRetried'. -/
def fnRetriedUptoCard : Claim7 := { stood := { row := fnRetriedUptoRow, standIns := [], harness := (true, "e341bf4a5d0e2a59a3cf31e7431898d58811ea7e36dd5a51b2aa25452c98398a"), looks := true }, kinds := [], alts := [], laidByText := true, laidKinds := [.data, .data], laidTests := true, laidLooks := .later }
def FnRetriedUptoCardSaid : Prop := Claim7.holds Tryd.pinned (.plain (OpenSpec.upto fnRetriedSpec)) fnRetriedUptoCard
end Rows
end Go.Proofs.YtgjohakjknmngaaDoor
