/-
  DERIVED. GIVEN WITH THE SEED: THE CARDS: each row of YtidgjjbdabifnaaDoorRows.lean that lists a variable, with what it lists TIED to the program's text (the seventh form; the later family's looks); each row that meets fmt, with fmt's text TOLD by the authors' own Lean function (tested against real Go, not proved from fmt's source: count such statements apart). THE CARD IS WHAT COUNTS. Prove the row's statement (the work); the ties are given (YtidgjjbdabifnaaDoorTie.lean); close each card by the builder's one call (the guide's Derived/Test/ToyasCard.lean, 'card_holds'). Laid BY PROGRAM, IN A SANDBOX (cutbox-door.mjs). By AI agents, Wed Nov 11 2026. No macro, syntax, notation, axiom, sorry.
-/
import Derived.Test.YtidgjjbdabifnaaDoorRows
import GoSem.ClaimSeven
namespace Go.Proofs.YtidgjjbdabifnaaDoor
namespace Rows

/-- THE TIED CARD OF 'laws.FnExactStaticField'. -/
def fnExactStaticFieldCard : Claim7 := { stood := { row := fnExactStaticFieldRow, standIns := [], harness := (true, "7380a41d6b8c8b3a6ee668f12f13d85760882bed09c831f1950d8d778bbee4a5"), looks := false }, kinds := [], alts := [], laidByText := true, laidKinds := [.data], laidTests := true, laidLooks := .later }
def FnExactStaticFieldCardSaid : Prop := Claim7.holds Tryd.pinned (.plain (OpenSpec.ofChange fnExactStaticFieldSpec)) fnExactStaticFieldCard

/-- THE TIED CARD OF 'laws.FnExactStaticAt'. -/
def fnExactStaticAtCard : Claim7 := { stood := { row := fnExactStaticAtRow, standIns := [], harness := (true, "7380a41d6b8c8b3a6ee668f12f13d85760882bed09c831f1950d8d778bbee4a5"), looks := false }, kinds := [], alts := [], laidByText := true, laidKinds := [.data], laidTests := true, laidLooks := .later }
def FnExactStaticAtCardSaid : Prop := Claim7.holds Tryd.pinned (.plain (OpenSpec.ofChange fnExactStaticAtSpec)) fnExactStaticAtCard

/-- THE TIED CARD OF 'laws.FnExactFieldsBytes'. -/
def fnExactFieldsBytesCard : Claim7 := { stood := { row := fnExactFieldsBytesRow, standIns := [], harness := (true, "7380a41d6b8c8b3a6ee668f12f13d85760882bed09c831f1950d8d778bbee4a5"), looks := false }, kinds := [], alts := [], laidByText := true, laidKinds := [.data], laidTests := true, laidLooks := .later }
def FnExactFieldsBytesCardSaid : Prop := Claim7.holds Tryd.pinned (.plain (OpenSpec.ofChange fnExactFieldsBytesSpec)) fnExactFieldsBytesCard

/-- THE SECOND FORM's CARD OF 'laws.FnExactStaticField'. -/
def fnExactStaticFieldUptoCard : Claim7 := { stood := { row := fnExactStaticFieldUptoRow, standIns := [], harness := (true, "7380a41d6b8c8b3a6ee668f12f13d85760882bed09c831f1950d8d778bbee4a5"), looks := false }, kinds := [], alts := [], laidByText := true, laidKinds := [.data], laidTests := true, laidLooks := .later }
def FnExactStaticFieldUptoCardSaid : Prop := Claim7.holds Tryd.pinned (.plain (OpenSpec.upto fnExactStaticFieldSpec)) fnExactStaticFieldUptoCard

/-- THE SECOND FORM's CARD OF 'laws.FnExactStaticAt'. -/
def fnExactStaticAtUptoCard : Claim7 := { stood := { row := fnExactStaticAtUptoRow, standIns := [], harness := (true, "7380a41d6b8c8b3a6ee668f12f13d85760882bed09c831f1950d8d778bbee4a5"), looks := false }, kinds := [], alts := [], laidByText := true, laidKinds := [.data], laidTests := true, laidLooks := .later }
def FnExactStaticAtUptoCardSaid : Prop := Claim7.holds Tryd.pinned (.plain (OpenSpec.upto fnExactStaticAtSpec)) fnExactStaticAtUptoCard

/-- THE SECOND FORM's CARD OF 'laws.FnExactFieldsBytes'. -/
def fnExactFieldsBytesUptoCard : Claim7 := { stood := { row := fnExactFieldsBytesUptoRow, standIns := [], harness := (true, "7380a41d6b8c8b3a6ee668f12f13d85760882bed09c831f1950d8d778bbee4a5"), looks := false }, kinds := [], alts := [], laidByText := true, laidKinds := [.data], laidTests := true, laidLooks := .later }
def FnExactFieldsBytesUptoCardSaid : Prop := Claim7.holds Tryd.pinned (.plain (OpenSpec.upto fnExactFieldsBytesSpec)) fnExactFieldsBytesUptoCard
end Rows
end Go.Proofs.YtidgjjbdabifnaaDoor
