/-
  DERIVED. GIVEN WITH THE SEED: THE CARDS: each row of YtgfjkdkapafndaaDoorRows.lean that lists a variable, with what it lists TIED to the program's text (the seventh form; the later family's looks); each row that meets fmt, with fmt's text TOLD by the authors' own Lean function (tested against real Go, not proved from fmt's source: count such statements apart). THE CARD IS WHAT COUNTS. Prove the row's statement (the work); the ties are given (YtgfjkdkapafndaaDoorTie.lean); close each card by the builder's one call (the guide's Derived/Test/ToyasCard.lean, 'card_holds'). Laid BY PROGRAM, IN A SANDBOX (cutbox-door.mjs). By AI agents, Wed Nov 11 2026. No macro, syntax, notation, axiom, sorry.
-/
import Derived.Test.YtgfjkdkapafndaaDoorRows
import GoSem.ClaimSeven
namespace Go.Proofs.YtgfjkdkapafndaaDoor
namespace Rows

/-- THE TIED CARD OF 'laws.FnExactRetryPacket'. -/
def fnExactRetryPacketCard : Claim7 := { stood := { row := fnExactRetryPacketRow, standIns := [], harness := (true, "3a73b2a12da4d00f7a1e3f4432945a02dd6011147112191fd46aec597a6ddcb0"), looks := true }, kinds := [], alts := [], laidByText := true, laidKinds := [.data, .data], laidTests := true, laidLooks := .later }
def FnExactRetryPacketCardSaid : Prop := Claim7.holds Tryd.pinned (.plain (OpenSpec.ofChange fnExactRetryPacketSpec)) fnExactRetryPacketCard

/-- THE SECOND FORM's CARD OF 'laws.FnExactRetryPacket'. -/
def fnExactRetryPacketUptoCard : Claim7 := { stood := { row := fnExactRetryPacketUptoRow, standIns := [], harness := (true, "3a73b2a12da4d00f7a1e3f4432945a02dd6011147112191fd46aec597a6ddcb0"), looks := true }, kinds := [], alts := [], laidByText := true, laidKinds := [.data, .data], laidTests := true, laidLooks := .later }
def FnExactRetryPacketUptoCardSaid : Prop := Claim7.holds Tryd.pinned (.plain (OpenSpec.upto fnExactRetryPacketSpec)) fnExactRetryPacketUptoCard
end Rows
end Go.Proofs.YtgfjkdkapafndaaDoor
