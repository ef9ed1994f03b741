/-
  DERIVED. GIVEN WITH THE SEED: THE CARDS: each row of YtgieglpjkjncfaaDoorRows.lean that lists a variable, with what it lists TIED to the program's text (the seventh form; the later family's looks); each row that meets fmt, with fmt's text TOLD by the authors' own Lean function (tested against real Go, not proved from fmt's source: count such statements apart). THE CARD IS WHAT COUNTS. Prove the row's statement (the work); the ties are given (YtgieglpjkjncfaaDoorTie.lean); close each card by the builder's one call (the guide's Derived/Test/ToyasCard.lean, 'card_holds'). Laid BY PROGRAM, IN A SANDBOX (cutbox-door.mjs). By AI agents, Wed Nov 11 2026. No macro, syntax, notation, axiom, sorry.
-/
import Derived.Test.YtgieglpjkjncfaaDoorRows
import GoSem.ClaimSeven
namespace Go.Proofs.YtgieglpjkjncfaaDoor
namespace Rows

/-- THE TIED CARD OF 'laws.FnExactCapsulesBytes'. -/
def fnExactCapsulesBytesCard : Claim7 := { stood := { row := fnExactCapsulesBytesRow, standIns := [], harness := (true, "d8260dd7869d771bfdbea506378b5dd91a37f615c03d297815b52faf0cb94ded"), looks := false }, kinds := [], alts := [], laidByText := true, laidKinds := [.data, .data], laidTests := true, laidLooks := .later }
def FnExactCapsulesBytesCardSaid : Prop := Claim7.holds Tryd.pinned (.plain (OpenSpec.ofChange fnExactCapsulesBytesSpec)) fnExactCapsulesBytesCard

/-- THE TIED CARD OF 'laws.FnExactCarriedBytes'. -/
def fnExactCarriedBytesCard : Claim7 := { stood := { row := fnExactCarriedBytesRow, standIns := [], harness := (true, "d8260dd7869d771bfdbea506378b5dd91a37f615c03d297815b52faf0cb94ded"), looks := false }, kinds := [], alts := [], laidByText := true, laidKinds := [.data, .data], laidTests := true, laidLooks := .later }
def FnExactCarriedBytesCardSaid : Prop := Claim7.holds Tryd.pinned (.plain (OpenSpec.ofChange fnExactCarriedBytesSpec)) fnExactCarriedBytesCard

/-- THE SECOND FORM's CARD OF 'laws.FnExactCapsulesBytes'. -/
def fnExactCapsulesBytesUptoCard : Claim7 := { stood := { row := fnExactCapsulesBytesUptoRow, standIns := [], harness := (true, "d8260dd7869d771bfdbea506378b5dd91a37f615c03d297815b52faf0cb94ded"), looks := false }, kinds := [], alts := [], laidByText := true, laidKinds := [.data, .data], laidTests := true, laidLooks := .later }
def FnExactCapsulesBytesUptoCardSaid : Prop := Claim7.holds Tryd.pinned (.plain (OpenSpec.upto fnExactCapsulesBytesSpec)) fnExactCapsulesBytesUptoCard

/-- THE SECOND FORM's CARD OF 'laws.FnExactCarriedBytes'. -/
def fnExactCarriedBytesUptoCard : Claim7 := { stood := { row := fnExactCarriedBytesUptoRow, standIns := [], harness := (true, "d8260dd7869d771bfdbea506378b5dd91a37f615c03d297815b52faf0cb94ded"), looks := false }, kinds := [], alts := [], laidByText := true, laidKinds := [.data, .data], laidTests := true, laidLooks := .later }
def FnExactCarriedBytesUptoCardSaid : Prop := Claim7.holds Tryd.pinned (.plain (OpenSpec.upto fnExactCarriedBytesSpec)) fnExactCarriedBytesUptoCard
end Rows
end Go.Proofs.YtgieglpjkjncfaaDoor
