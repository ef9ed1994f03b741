/-
  DERIVED. GIVEN WITH THE SEED: THE CARDS: each row of YtcnpbcigndcheaaDoorRows.lean that lists a variable, with what it lists TIED to the program's text (the seventh form; the later family's looks); each row that meets fmt, with fmt's text TOLD by the authors' own Lean function (tested against real Go, not proved from fmt's source: count such statements apart). THE CARD IS WHAT COUNTS. Prove the row's statement (the work); the ties are given (YtcnpbcigndcheaaDoorTie.lean); close each card by the builder's one call (the guide's Derived/Test/ToyasCard.lean, 'card_holds'). Laid BY PROGRAM, IN A SANDBOX (cutbox-door.mjs). By AI agents, Wed Nov 11 2026. No macro, syntax, notation, axiom, sorry.
-/
import Derived.Test.YtcnpbcigndcheaaDoorRows
import GoSem.ClaimSeven
namespace Go.Proofs.YtcnpbcigndcheaaDoor
namespace Rows

/-- THE TIED CARD OF 'laws.FnExactFramesBytes'. -/
def fnExactFramesBytesCard : Claim7 := { stood := { row := fnExactFramesBytesRow, standIns := [], harness := (true, "8da45f89af82838dc0587530500e1c8f1764ddc4567cecb18016e122440caa0a"), looks := false }, kinds := [], alts := [], laidByText := true, laidKinds := [.data, .data], laidTests := true, laidLooks := .later }
def FnExactFramesBytesCardSaid : Prop := Claim7.holds Tryd.pinned (.plain (OpenSpec.ofChange fnExactFramesBytesSpec)) fnExactFramesBytesCard

/-- THE SECOND FORM's CARD OF 'laws.FnExactFramesBytes'. -/
def fnExactFramesBytesUptoCard : Claim7 := { stood := { row := fnExactFramesBytesUptoRow, standIns := [], harness := (true, "8da45f89af82838dc0587530500e1c8f1764ddc4567cecb18016e122440caa0a"), looks := false }, kinds := [], alts := [], laidByText := true, laidKinds := [.data, .data], laidTests := true, laidLooks := .later }
def FnExactFramesBytesUptoCardSaid : Prop := Claim7.holds Tryd.pinned (.plain (OpenSpec.upto fnExactFramesBytesSpec)) fnExactFramesBytesUptoCard
end Rows
end Go.Proofs.YtcnpbcigndcheaaDoor
