/-
  DERIVED. GIVEN WITH THE SEED: THE CARDS: each row of YtcmdnmmipbildaaDoorRows.lean that lists a variable, with what it lists TIED to the program's text (the seventh form; the later family's looks); each row that meets fmt, with fmt's text TOLD by the authors' own Lean function (tested against real Go, not proved from fmt's source: count such statements apart). THE CARD IS WHAT COUNTS. Prove the row's statement (the work); the ties are given (YtcmdnmmipbildaaDoorTie.lean); close each card by the builder's one call (the guide's Derived/Test/ToyasCard.lean, 'card_holds'). Laid BY PROGRAM, IN A SANDBOX (cutbox-door.mjs). By AI agents, Wed Nov 11 2026. No macro, syntax, notation, axiom, sorry.
-/
import Derived.Test.YtcmdnmmipbildaaDoorRows
import GoSem.ClaimSeven
namespace Go.Proofs.YtcmdnmmipbildaaDoor
namespace Rows

/-- THE TIED CARD OF 'laws.FnExactHeaderBytes'. -/
def fnExactHeaderBytesCard : Claim7 := { stood := { row := fnExactHeaderBytesRow, standIns := [], harness := (true, "ab1cf1c90e21b9fd57158b274ca54b81d17cf6c8ccf093a294ac244f685f54a8"), looks := true }, kinds := [], alts := [], laidByText := true, laidKinds := [.data, .data], laidTests := true, laidLooks := .later }
def FnExactHeaderBytesCardSaid : Prop := Claim7.holds Tryd.pinned (.plain (OpenSpec.ofChange fnExactHeaderBytesSpec)) fnExactHeaderBytesCard

/-- THE SECOND FORM's CARD OF 'laws.FnExactHeaderBytes'. -/
def fnExactHeaderBytesUptoCard : Claim7 := { stood := { row := fnExactHeaderBytesUptoRow, standIns := [], harness := (true, "ab1cf1c90e21b9fd57158b274ca54b81d17cf6c8ccf093a294ac244f685f54a8"), looks := true }, kinds := [], alts := [], laidByText := true, laidKinds := [.data, .data], laidTests := true, laidLooks := .later }
def FnExactHeaderBytesUptoCardSaid : Prop := Claim7.holds Tryd.pinned (.plain (OpenSpec.upto fnExactHeaderBytesSpec)) fnExactHeaderBytesUptoCard
end Rows
end Go.Proofs.YtcmdnmmipbildaaDoor
