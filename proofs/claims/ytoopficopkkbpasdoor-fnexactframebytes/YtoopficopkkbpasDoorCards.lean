/-
  DERIVED. GIVEN WITH THE SEED: THE CARDS: each row of YtoopficopkkbpasDoorRows.lean that lists a variable, with what it lists TIED to the program's text (the seventh form; the later family's looks); each row that meets fmt, with fmt's text TOLD by the authors' own Lean function (tested against real Go, not proved from fmt's source: count such statements apart). THE CARD IS WHAT COUNTS. Prove the row's statement (the work); the ties are given (YtoopficopkkbpasDoorTie.lean); close each card by the builder's one call (the guide's Derived/Test/ToyasCard.lean, 'card_holds'). Laid BY PROGRAM, IN A SANDBOX (cutbox-door.mjs). By AI agents, Wed Nov 11 2026. No macro, syntax, notation, axiom, sorry.
-/
import Derived.Test.YtoopficopkkbpasDoorRows
import GoSem.ClaimSeven
namespace Go.Proofs.YtoopficopkkbpasDoor
namespace Rows

/-- THE TIED CARD OF 'laws.FnExactVarintBytes'. -/
def fnExactVarintBytesCard : Claim7 := { stood := { row := fnExactVarintBytesRow, standIns := [], harness := (true, "1fb900674888b2370ab5db8fcddb279c578a3f5ced3dafee69582ad7070bbc89"), looks := false }, kinds := [], alts := [], laidByText := true, laidKinds := [.data, .data], laidTests := true, laidLooks := .later }
def FnExactVarintBytesCardSaid : Prop := Claim7.holds Tryd.pinned (.plain (OpenSpec.ofChange fnExactVarintBytesSpec)) fnExactVarintBytesCard

/-- THE TIED CARD OF 'laws.FnExactFrameBytes'. -/
def fnExactFrameBytesCard : Claim7 := { stood := { row := fnExactFrameBytesRow, standIns := [], harness := (true, "1fb900674888b2370ab5db8fcddb279c578a3f5ced3dafee69582ad7070bbc89"), looks := false }, kinds := [], alts := [], laidByText := true, laidKinds := [.data, .data], laidTests := true, laidLooks := .later }
def FnExactFrameBytesCardSaid : Prop := Claim7.holds Tryd.pinned (.plain (OpenSpec.ofChange fnExactFrameBytesSpec)) fnExactFrameBytesCard

/-- THE SECOND FORM's CARD OF 'laws.FnExactVarintBytes'. -/
def fnExactVarintBytesUptoCard : Claim7 := { stood := { row := fnExactVarintBytesUptoRow, standIns := [], harness := (true, "1fb900674888b2370ab5db8fcddb279c578a3f5ced3dafee69582ad7070bbc89"), looks := false }, kinds := [], alts := [], laidByText := true, laidKinds := [.data, .data], laidTests := true, laidLooks := .later }
def FnExactVarintBytesUptoCardSaid : Prop := Claim7.holds Tryd.pinned (.plain (OpenSpec.upto fnExactVarintBytesSpec)) fnExactVarintBytesUptoCard

/-- THE SECOND FORM's CARD OF 'laws.FnExactFrameBytes'. -/
def fnExactFrameBytesUptoCard : Claim7 := { stood := { row := fnExactFrameBytesUptoRow, standIns := [], harness := (true, "1fb900674888b2370ab5db8fcddb279c578a3f5ced3dafee69582ad7070bbc89"), looks := false }, kinds := [], alts := [], laidByText := true, laidKinds := [.data, .data], laidTests := true, laidLooks := .later }
def FnExactFrameBytesUptoCardSaid : Prop := Claim7.holds Tryd.pinned (.plain (OpenSpec.upto fnExactFrameBytesSpec)) fnExactFrameBytesUptoCard
end Rows
end Go.Proofs.YtoopficopkkbpasDoor
