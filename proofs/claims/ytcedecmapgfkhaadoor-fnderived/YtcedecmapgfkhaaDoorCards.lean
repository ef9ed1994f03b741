/-
  DERIVED. GIVEN WITH THE SEED: THE CARDS: each row of YtcedecmapgfkhaaDoorRows.lean that lists a variable, with what it lists TIED to the program's text (the seventh form; the later family's looks); each row that meets fmt, with fmt's text TOLD by the authors' own Lean function (tested against real Go, not proved from fmt's source: count such statements apart). THE CARD IS WHAT COUNTS. Prove the row's statement (the work); the ties are given (YtcedecmapgfkhaaDoorTie.lean); close each card by the builder's one call (the guide's Derived/Test/ToyasCard.lean, 'card_holds'). Laid BY PROGRAM, IN A SANDBOX (cutbox-door.mjs). By AI agents, Wed Nov 11 2026. No macro, syntax, notation, axiom, sorry.
-/
import Derived.Test.YtcedecmapgfkhaaDoorRows
import GoSem.ClaimSeven
namespace Go.Proofs.YtcedecmapgfkhaaDoor
namespace Rows

/-- THE TIED CARD OF 'laws.FnHashed'. -/
def fnHashedCard : Claim7 := { stood := { row := fnHashedRow, standIns := [], harness := (true, "801c8be49d5955985f156b1e591eaafae7c6e1d46b5119c9ccdf0ba570cdb7bc"), looks := false }, kinds := [], alts := [], laidByText := true, laidKinds := [.data], laidTests := true, laidLooks := .later }
def FnHashedCardSaid : Prop := Claim7.holds Tryd.pinned (.plain (OpenSpec.ofChange fnHashedSpec)) fnHashedCard

/-- THE TIED CARD OF 'laws.FnKeyed'. -/
def fnKeyedCard : Claim7 := { stood := { row := fnKeyedRow, standIns := [], harness := (true, "801c8be49d5955985f156b1e591eaafae7c6e1d46b5119c9ccdf0ba570cdb7bc"), looks := false }, kinds := [], alts := [], laidByText := true, laidKinds := [.data], laidTests := true, laidLooks := .later }
def FnKeyedCardSaid : Prop := Claim7.holds Tryd.pinned (.plain (OpenSpec.ofChange fnKeyedSpec)) fnKeyedCard

/-- THE TIED CARD OF 'laws.FnDerived'. -/
def fnDerivedCard : Claim7 := { stood := { row := fnDerivedRow, standIns := [], harness := (true, "801c8be49d5955985f156b1e591eaafae7c6e1d46b5119c9ccdf0ba570cdb7bc"), looks := false }, kinds := [], alts := [], laidByText := true, laidKinds := [.data], laidTests := true, laidLooks := .later }
def FnDerivedCardSaid : Prop := Claim7.holds Tryd.pinned (.plain (OpenSpec.ofChange fnDerivedSpec)) fnDerivedCard

/-- THE TIED CARD OF 'laws.FnExactRoundWords'. -/
def fnExactRoundWordsCard : Claim7 := { stood := { row := fnExactRoundWordsRow, standIns := [], harness := (true, "801c8be49d5955985f156b1e591eaafae7c6e1d46b5119c9ccdf0ba570cdb7bc"), looks := false }, kinds := [], alts := [], laidByText := true, laidKinds := [.data], laidTests := true, laidLooks := .later }
def FnExactRoundWordsCardSaid : Prop := Claim7.holds Tryd.pinned (.plain (OpenSpec.ofChange fnExactRoundWordsSpec)) fnExactRoundWordsCard

/-- THE TIED CARD OF 'laws.FnExactSha256'. -/
def fnExactSha256Card : Claim7 := { stood := { row := fnExactSha256Row, standIns := [], harness := (true, "801c8be49d5955985f156b1e591eaafae7c6e1d46b5119c9ccdf0ba570cdb7bc"), looks := false }, kinds := [], alts := [], laidByText := true, laidKinds := [.data], laidTests := true, laidLooks := .later }
def FnExactSha256CardSaid : Prop := Claim7.holds Tryd.pinned (.plain (OpenSpec.ofChange fnExactSha256Spec)) fnExactSha256Card

/-- THE TIED CARD OF 'laws.FnExactHashFrom'. -/
def fnExactHashFromCard : Claim7 := { stood := { row := fnExactHashFromRow, standIns := [], harness := (true, "801c8be49d5955985f156b1e591eaafae7c6e1d46b5119c9ccdf0ba570cdb7bc"), looks := false }, kinds := [], alts := [], laidByText := true, laidKinds := [.data], laidTests := true, laidLooks := .later }
def FnExactHashFromCardSaid : Prop := Claim7.holds Tryd.pinned (.plain (OpenSpec.ofChange fnExactHashFromSpec)) fnExactHashFromCard

/-- THE SECOND FORM's CARD OF 'laws.FnHashed'. -/
def fnHashedUptoCard : Claim7 := { stood := { row := fnHashedUptoRow, standIns := [], harness := (true, "801c8be49d5955985f156b1e591eaafae7c6e1d46b5119c9ccdf0ba570cdb7bc"), looks := false }, kinds := [], alts := [], laidByText := true, laidKinds := [.data], laidTests := true, laidLooks := .later }
def FnHashedUptoCardSaid : Prop := Claim7.holds Tryd.pinned (.plain (OpenSpec.upto fnHashedSpec)) fnHashedUptoCard

/-- THE SECOND FORM's CARD OF 'laws.FnKeyed'. -/
def fnKeyedUptoCard : Claim7 := { stood := { row := fnKeyedUptoRow, standIns := [], harness := (true, "801c8be49d5955985f156b1e591eaafae7c6e1d46b5119c9ccdf0ba570cdb7bc"), looks := false }, kinds := [], alts := [], laidByText := true, laidKinds := [.data], laidTests := true, laidLooks := .later }
def FnKeyedUptoCardSaid : Prop := Claim7.holds Tryd.pinned (.plain (OpenSpec.upto fnKeyedSpec)) fnKeyedUptoCard

/-- THE SECOND FORM's CARD OF 'laws.FnDerived'. -/
def fnDerivedUptoCard : Claim7 := { stood := { row := fnDerivedUptoRow, standIns := [], harness := (true, "801c8be49d5955985f156b1e591eaafae7c6e1d46b5119c9ccdf0ba570cdb7bc"), looks := false }, kinds := [], alts := [], laidByText := true, laidKinds := [.data], laidTests := true, laidLooks := .later }
def FnDerivedUptoCardSaid : Prop := Claim7.holds Tryd.pinned (.plain (OpenSpec.upto fnDerivedSpec)) fnDerivedUptoCard

/-- THE SECOND FORM's CARD OF 'laws.FnExactRoundWords'. -/
def fnExactRoundWordsUptoCard : Claim7 := { stood := { row := fnExactRoundWordsUptoRow, standIns := [], harness := (true, "801c8be49d5955985f156b1e591eaafae7c6e1d46b5119c9ccdf0ba570cdb7bc"), looks := false }, kinds := [], alts := [], laidByText := true, laidKinds := [.data], laidTests := true, laidLooks := .later }
def FnExactRoundWordsUptoCardSaid : Prop := Claim7.holds Tryd.pinned (.plain (OpenSpec.upto fnExactRoundWordsSpec)) fnExactRoundWordsUptoCard

/-- THE SECOND FORM's CARD OF 'laws.FnExactSha256'. -/
def fnExactSha256UptoCard : Claim7 := { stood := { row := fnExactSha256UptoRow, standIns := [], harness := (true, "801c8be49d5955985f156b1e591eaafae7c6e1d46b5119c9ccdf0ba570cdb7bc"), looks := false }, kinds := [], alts := [], laidByText := true, laidKinds := [.data], laidTests := true, laidLooks := .later }
def FnExactSha256UptoCardSaid : Prop := Claim7.holds Tryd.pinned (.plain (OpenSpec.upto fnExactSha256Spec)) fnExactSha256UptoCard

/-- THE SECOND FORM's CARD OF 'laws.FnExactHashFrom'. -/
def fnExactHashFromUptoCard : Claim7 := { stood := { row := fnExactHashFromUptoRow, standIns := [], harness := (true, "801c8be49d5955985f156b1e591eaafae7c6e1d46b5119c9ccdf0ba570cdb7bc"), looks := false }, kinds := [], alts := [], laidByText := true, laidKinds := [.data], laidTests := true, laidLooks := .later }
def FnExactHashFromUptoCardSaid : Prop := Claim7.holds Tryd.pinned (.plain (OpenSpec.upto fnExactHashFromSpec)) fnExactHashFromUptoCard
end Rows
end Go.Proofs.YtcedecmapgfkhaaDoor
