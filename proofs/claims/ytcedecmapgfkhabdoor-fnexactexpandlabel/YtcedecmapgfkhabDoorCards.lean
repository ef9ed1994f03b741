/-
  DERIVED. GIVEN WITH THE SEED: THE CARDS: each row of YtcedecmapgfkhabDoorRows.lean that lists a variable, with what it lists TIED to the program's text (the seventh form; the later family's looks); each row that meets fmt, with fmt's text TOLD by the authors' own Lean function (tested against real Go, not proved from fmt's source: count such statements apart). THE CARD IS WHAT COUNTS. Prove the row's statement (the work); the ties are given (YtcedecmapgfkhabDoorTie.lean); close each card by the builder's one call (the guide's Derived/Test/ToyasCard.lean, 'card_holds'). Laid BY PROGRAM, IN A SANDBOX (cutbox-door.mjs). By AI agents, Wed Nov 11 2026. No macro, syntax, notation, axiom, sorry.
-/
import Derived.Test.YtcedecmapgfkhabDoorRows
import GoSem.ClaimSeven
namespace Go.Proofs.YtcedecmapgfkhabDoor
namespace Rows

/-- THE TIED CARD OF 'laws.FnExactHmacSha'. -/
def fnExactHmacShaCard : Claim7 := { stood := { row := fnExactHmacShaRow, standIns := [], harness := (true, "79c1e9b424326e46fe7bea528bb8995977f4bf094c51248019021d94b6e20199"), looks := false }, kinds := [], alts := [], laidByText := true, laidKinds := [.data], laidTests := true, laidLooks := .later }
def FnExactHmacShaCardSaid : Prop := Claim7.holds Tryd.pinned (.plain (OpenSpec.ofChange fnExactHmacShaSpec)) fnExactHmacShaCard

/-- THE TIED CARD OF 'laws.FnExactHkdfExtract'. -/
def fnExactHkdfExtractCard : Claim7 := { stood := { row := fnExactHkdfExtractRow, standIns := [], harness := (true, "79c1e9b424326e46fe7bea528bb8995977f4bf094c51248019021d94b6e20199"), looks := false }, kinds := [], alts := [], laidByText := true, laidKinds := [.data], laidTests := true, laidLooks := .later }
def FnExactHkdfExtractCardSaid : Prop := Claim7.holds Tryd.pinned (.plain (OpenSpec.ofChange fnExactHkdfExtractSpec)) fnExactHkdfExtractCard

/-- THE TIED CARD OF 'laws.FnExactHkdfExpand'. -/
def fnExactHkdfExpandCard : Claim7 := { stood := { row := fnExactHkdfExpandRow, standIns := [], harness := (true, "79c1e9b424326e46fe7bea528bb8995977f4bf094c51248019021d94b6e20199"), looks := false }, kinds := [], alts := [], laidByText := true, laidKinds := [.data], laidTests := true, laidLooks := .later }
def FnExactHkdfExpandCardSaid : Prop := Claim7.holds Tryd.pinned (.plain (OpenSpec.ofChange fnExactHkdfExpandSpec)) fnExactHkdfExpandCard

/-- THE TIED CARD OF 'laws.FnExactExpandLabel'. -/
def fnExactExpandLabelCard : Claim7 := { stood := { row := fnExactExpandLabelRow, standIns := [], harness := (true, "79c1e9b424326e46fe7bea528bb8995977f4bf094c51248019021d94b6e20199"), looks := false }, kinds := [], alts := [], laidByText := true, laidKinds := [.data], laidTests := true, laidLooks := .later }
def FnExactExpandLabelCardSaid : Prop := Claim7.holds Tryd.pinned (.plain (OpenSpec.ofChange fnExactExpandLabelSpec)) fnExactExpandLabelCard

/-- THE TIED CARD OF 'laws.FnExactInitialSecrets'. -/
def fnExactInitialSecretsCard : Claim7 := { stood := { row := fnExactInitialSecretsRow, standIns := [], harness := (true, "79c1e9b424326e46fe7bea528bb8995977f4bf094c51248019021d94b6e20199"), looks := false }, kinds := [], alts := [], laidByText := true, laidKinds := [.data], laidTests := true, laidLooks := .later }
def FnExactInitialSecretsCardSaid : Prop := Claim7.holds Tryd.pinned (.plain (OpenSpec.ofChange fnExactInitialSecretsSpec)) fnExactInitialSecretsCard

/-- THE SECOND FORM's CARD OF 'laws.FnExactHmacSha'. -/
def fnExactHmacShaUptoCard : Claim7 := { stood := { row := fnExactHmacShaUptoRow, standIns := [], harness := (true, "79c1e9b424326e46fe7bea528bb8995977f4bf094c51248019021d94b6e20199"), looks := false }, kinds := [], alts := [], laidByText := true, laidKinds := [.data], laidTests := true, laidLooks := .later }
def FnExactHmacShaUptoCardSaid : Prop := Claim7.holds Tryd.pinned (.plain (OpenSpec.upto fnExactHmacShaSpec)) fnExactHmacShaUptoCard

/-- THE SECOND FORM's CARD OF 'laws.FnExactHkdfExtract'. -/
def fnExactHkdfExtractUptoCard : Claim7 := { stood := { row := fnExactHkdfExtractUptoRow, standIns := [], harness := (true, "79c1e9b424326e46fe7bea528bb8995977f4bf094c51248019021d94b6e20199"), looks := false }, kinds := [], alts := [], laidByText := true, laidKinds := [.data], laidTests := true, laidLooks := .later }
def FnExactHkdfExtractUptoCardSaid : Prop := Claim7.holds Tryd.pinned (.plain (OpenSpec.upto fnExactHkdfExtractSpec)) fnExactHkdfExtractUptoCard

/-- THE SECOND FORM's CARD OF 'laws.FnExactHkdfExpand'. -/
def fnExactHkdfExpandUptoCard : Claim7 := { stood := { row := fnExactHkdfExpandUptoRow, standIns := [], harness := (true, "79c1e9b424326e46fe7bea528bb8995977f4bf094c51248019021d94b6e20199"), looks := false }, kinds := [], alts := [], laidByText := true, laidKinds := [.data], laidTests := true, laidLooks := .later }
def FnExactHkdfExpandUptoCardSaid : Prop := Claim7.holds Tryd.pinned (.plain (OpenSpec.upto fnExactHkdfExpandSpec)) fnExactHkdfExpandUptoCard

/-- THE SECOND FORM's CARD OF 'laws.FnExactExpandLabel'. -/
def fnExactExpandLabelUptoCard : Claim7 := { stood := { row := fnExactExpandLabelUptoRow, standIns := [], harness := (true, "79c1e9b424326e46fe7bea528bb8995977f4bf094c51248019021d94b6e20199"), looks := false }, kinds := [], alts := [], laidByText := true, laidKinds := [.data], laidTests := true, laidLooks := .later }
def FnExactExpandLabelUptoCardSaid : Prop := Claim7.holds Tryd.pinned (.plain (OpenSpec.upto fnExactExpandLabelSpec)) fnExactExpandLabelUptoCard

/-- THE SECOND FORM's CARD OF 'laws.FnExactInitialSecrets'. -/
def fnExactInitialSecretsUptoCard : Claim7 := { stood := { row := fnExactInitialSecretsUptoRow, standIns := [], harness := (true, "79c1e9b424326e46fe7bea528bb8995977f4bf094c51248019021d94b6e20199"), looks := false }, kinds := [], alts := [], laidByText := true, laidKinds := [.data], laidTests := true, laidLooks := .later }
def FnExactInitialSecretsUptoCardSaid : Prop := Claim7.holds Tryd.pinned (.plain (OpenSpec.upto fnExactInitialSecretsSpec)) fnExactInitialSecretsUptoCard
end Rows
end Go.Proofs.YtcedecmapgfkhabDoor
