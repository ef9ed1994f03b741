/-
  DERIVED. GIVEN WITH THE SEED: THE CARDS: each row of YtmajcpimahkpfaaDoorRows.lean that lists a variable, with what it lists TIED to the program's text (the seventh form; the later family's looks); each row that meets fmt, with fmt's text TOLD by the authors' own Lean function (tested against real Go, not proved from fmt's source: count such statements apart). THE CARD IS WHAT COUNTS. Prove the row's statement (the work); the ties are given (YtmajcpimahkpfaaDoorTie.lean); close each card by the builder's one call (the guide's Derived/Test/ToyasCard.lean, 'card_holds'). Laid BY PROGRAM, IN A SANDBOX (cutbox-door.mjs). By AI agents, Wed Nov 11 2026. No macro, syntax, notation, axiom, sorry.
-/
import Derived.Test.YtmajcpimahkpfaaDoorRows
import GoSem.ClaimSeven
namespace Go.Proofs.YtmajcpimahkpfaaDoor
namespace Rows

/-- THE TIED CARD OF 'laws.FnHeaders'. -/
def fnHeadersCard : Claim7 := { stood := { row := fnHeadersRow, standIns := [], harness := (true, "b74fc8e0f2fed114f8790bc5b2e837e8cdbfc8287c6f883e5970ca958556b5d1"), looks := true }, kinds := [], alts := [], laidByText := true, laidKinds := [.data, .data], laidTests := true, laidLooks := .later }
def FnHeadersCardSaid : Prop := Claim7.holds Tryd.pinned (.plain (OpenSpec.ofChange fnHeadersSpec)) fnHeadersCard

/-- THE SECOND FORM's CARD OF 'laws.FnHeaders'. -/
def fnHeadersUptoCard : Claim7 := { stood := { row := fnHeadersUptoRow, standIns := [], harness := (true, "b74fc8e0f2fed114f8790bc5b2e837e8cdbfc8287c6f883e5970ca958556b5d1"), looks := true }, kinds := [], alts := [], laidByText := true, laidKinds := [.data, .data], laidTests := true, laidLooks := .later }
def FnHeadersUptoCardSaid : Prop := Claim7.holds Tryd.pinned (.plain (OpenSpec.upto fnHeadersSpec)) fnHeadersUptoCard
end Rows
end Go.Proofs.YtmajcpimahkpfaaDoor
