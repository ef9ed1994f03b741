/-
  DERIVED. GIVEN WITH THE SEED: THE CARDS: each row of YtgieglpjkjncfabDoorRows.lean that lists a variable, with what it lists TIED to the program's text (the seventh form; the later family's looks); each row that meets fmt, with fmt's text TOLD by the authors' own Lean function (tested against real Go, not proved from fmt's source: count such statements apart). THE CARD IS WHAT COUNTS. Prove the row's statement (the work); the ties are given (YtgieglpjkjncfabDoorTie.lean); close each card by the builder's one call (the guide's Derived/Test/ToyasCard.lean, 'card_holds'). Laid BY PROGRAM, IN A SANDBOX (cutbox-door.mjs). By AI agents, Wed Nov 11 2026. No macro, syntax, notation, axiom, sorry.
-/
import Derived.Test.YtgieglpjkjncfabDoorRows
import GoSem.ClaimSeven
namespace Go.Proofs.YtgieglpjkjncfabDoor
namespace Rows

/-- THE TIED CARD OF 'laws.FnCapsules'. -/
def fnCapsulesCard : Claim7 := { stood := { row := fnCapsulesRow, standIns := [], harness := (true, "11d72834b2c5cfd912b19ecd2faa6e5cbe53b9be4e673e21b5ee940d3cd5826e"), looks := true }, kinds := [], alts := [], laidByText := true, laidKinds := [.data, .data], laidTests := true, laidLooks := .later }
def FnCapsulesCardSaid : Prop := Claim7.holds Tryd.pinned (.plain (OpenSpec.ofChange fnCapsulesSpec)) fnCapsulesCard

/-- THE TIED CARD OF 'laws.FnCarried'. -/
def fnCarriedCard : Claim7 := { stood := { row := fnCarriedRow, standIns := [], harness := (true, "11d72834b2c5cfd912b19ecd2faa6e5cbe53b9be4e673e21b5ee940d3cd5826e"), looks := true }, kinds := [], alts := [], laidByText := true, laidKinds := [.data, .data], laidTests := true, laidLooks := .later }
def FnCarriedCardSaid : Prop := Claim7.holds Tryd.pinned (.plain (OpenSpec.ofChange fnCarriedSpec)) fnCarriedCard

/-- THE SECOND FORM's CARD OF 'laws.FnCapsules'. -/
def fnCapsulesUptoCard : Claim7 := { stood := { row := fnCapsulesUptoRow, standIns := [], harness := (true, "11d72834b2c5cfd912b19ecd2faa6e5cbe53b9be4e673e21b5ee940d3cd5826e"), looks := true }, kinds := [], alts := [], laidByText := true, laidKinds := [.data, .data], laidTests := true, laidLooks := .later }
def FnCapsulesUptoCardSaid : Prop := Claim7.holds Tryd.pinned (.plain (OpenSpec.upto fnCapsulesSpec)) fnCapsulesUptoCard

/-- THE SECOND FORM's CARD OF 'laws.FnCarried'. -/
def fnCarriedUptoCard : Claim7 := { stood := { row := fnCarriedUptoRow, standIns := [], harness := (true, "11d72834b2c5cfd912b19ecd2faa6e5cbe53b9be4e673e21b5ee940d3cd5826e"), looks := true }, kinds := [], alts := [], laidByText := true, laidKinds := [.data, .data], laidTests := true, laidLooks := .later }
def FnCarriedUptoCardSaid : Prop := Claim7.holds Tryd.pinned (.plain (OpenSpec.upto fnCarriedSpec)) fnCarriedUptoCard
end Rows
end Go.Proofs.YtgieglpjkjncfabDoor
