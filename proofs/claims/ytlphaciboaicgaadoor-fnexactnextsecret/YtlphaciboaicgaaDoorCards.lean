/-
  DERIVED. GIVEN WITH THE SEED: THE CARDS: each row of YtlphaciboaicgaaDoorRows.lean that lists a variable, with what it lists TIED to the program's text (the seventh form; the later family's looks); each row that meets fmt, with fmt's text TOLD by the authors' own Lean function (tested against real Go, not proved from fmt's source: count such statements apart). THE CARD IS WHAT COUNTS. Prove the row's statement (the work); the ties are given (YtlphaciboaicgaaDoorTie.lean); close each card by the builder's one call (the guide's Derived/Test/ToyasCard.lean, 'card_holds'). Laid BY PROGRAM, IN A SANDBOX (cutbox-door.mjs). By AI agents, Wed Nov 11 2026. No macro, syntax, notation, axiom, sorry.
-/
import Derived.Test.YtlphaciboaicgaaDoorRows
import GoSem.ClaimSeven
namespace Go.Proofs.YtlphaciboaicgaaDoor
namespace Rows

/-- THE TIED CARD OF 'laws.FnExactKeysOf'. -/
def fnExactKeysOfCard : Claim7 := { stood := { row := fnExactKeysOfRow, standIns := [], harness := (true, "97aaf14e62337d2ba351a2458b49968460665515490e20d38e7cb302efaad88c"), looks := false }, kinds := [], alts := [], laidByText := true, laidKinds := [.data], laidTests := true, laidLooks := .later }
def FnExactKeysOfCardSaid : Prop := Claim7.holds Tryd.pinned (.plain (OpenSpec.ofChange fnExactKeysOfSpec)) fnExactKeysOfCard

/-- THE TIED CARD OF 'laws.FnExactNextSecret'. -/
def fnExactNextSecretCard : Claim7 := { stood := { row := fnExactNextSecretRow, standIns := [], harness := (true, "97aaf14e62337d2ba351a2458b49968460665515490e20d38e7cb302efaad88c"), looks := false }, kinds := [], alts := [], laidByText := true, laidKinds := [.data], laidTests := true, laidLooks := .later }
def FnExactNextSecretCardSaid : Prop := Claim7.holds Tryd.pinned (.plain (OpenSpec.ofChange fnExactNextSecretSpec)) fnExactNextSecretCard

/-- THE SECOND FORM's CARD OF 'laws.FnExactKeysOf'. -/
def fnExactKeysOfUptoCard : Claim7 := { stood := { row := fnExactKeysOfUptoRow, standIns := [], harness := (true, "97aaf14e62337d2ba351a2458b49968460665515490e20d38e7cb302efaad88c"), looks := false }, kinds := [], alts := [], laidByText := true, laidKinds := [.data], laidTests := true, laidLooks := .later }
def FnExactKeysOfUptoCardSaid : Prop := Claim7.holds Tryd.pinned (.plain (OpenSpec.upto fnExactKeysOfSpec)) fnExactKeysOfUptoCard

/-- THE SECOND FORM's CARD OF 'laws.FnExactNextSecret'. -/
def fnExactNextSecretUptoCard : Claim7 := { stood := { row := fnExactNextSecretUptoRow, standIns := [], harness := (true, "97aaf14e62337d2ba351a2458b49968460665515490e20d38e7cb302efaad88c"), looks := false }, kinds := [], alts := [], laidByText := true, laidKinds := [.data], laidTests := true, laidLooks := .later }
def FnExactNextSecretUptoCardSaid : Prop := Claim7.holds Tryd.pinned (.plain (OpenSpec.upto fnExactNextSecretSpec)) fnExactNextSecretUptoCard
end Rows
end Go.Proofs.YtlphaciboaicgaaDoor
