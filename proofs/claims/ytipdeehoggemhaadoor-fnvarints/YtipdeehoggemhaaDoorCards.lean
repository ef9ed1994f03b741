/-
  DERIVED. GIVEN WITH THE SEED: THE CARDS: each row of YtipdeehoggemhaaDoorRows.lean that lists a variable, with what it lists TIED to the program's text (the seventh form; the later family's looks); each row that meets fmt, with fmt's text TOLD by the authors' own Lean function (tested against real Go, not proved from fmt's source: count such statements apart). THE CARD IS WHAT COUNTS. Prove the row's statement (the work); the ties are given (YtipdeehoggemhaaDoorTie.lean); close each card by the builder's one call (the guide's Derived/Test/ToyasCard.lean, 'card_holds'). Laid BY PROGRAM, IN A SANDBOX (cutbox-door.mjs). By AI agents, Wed Nov 11 2026. No macro, syntax, notation, axiom, sorry.
-/
import Derived.Test.YtipdeehoggemhaaDoorRows
import GoSem.ClaimSeven
namespace Go.Proofs.YtipdeehoggemhaaDoor
namespace Rows

/-- THE TIED CARD OF 'laws.FnVarints'. -/
def fnVarintsCard : Claim7 := { stood := { row := fnVarintsRow, standIns := [], harness := (true, "c36d54e72092514072c88164c7a5e6883e0d6e95dadc4f7dbcb2d8e4bfaa035f"), looks := false }, kinds := [], alts := [], laidByText := true, laidKinds := [.data, .data], laidTests := true, laidLooks := .later }
def FnVarintsCardSaid : Prop := Claim7.holds Tryd.pinned (.plain (OpenSpec.ofChange fnVarintsSpec)) fnVarintsCard

/-- THE SECOND FORM's CARD OF 'laws.FnVarints'. -/
def fnVarintsUptoCard : Claim7 := { stood := { row := fnVarintsUptoRow, standIns := [], harness := (true, "c36d54e72092514072c88164c7a5e6883e0d6e95dadc4f7dbcb2d8e4bfaa035f"), looks := false }, kinds := [], alts := [], laidByText := true, laidKinds := [.data, .data], laidTests := true, laidLooks := .later }
def FnVarintsUptoCardSaid : Prop := Claim7.holds Tryd.pinned (.plain (OpenSpec.upto fnVarintsSpec)) fnVarintsUptoCard
end Rows
end Go.Proofs.YtipdeehoggemhaaDoor
