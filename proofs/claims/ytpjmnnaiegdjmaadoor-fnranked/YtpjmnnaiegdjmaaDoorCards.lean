/-
  DERIVED. GIVEN WITH THE SEED: THE CARDS: each row of YtpjmnnaiegdjmaaDoorRows.lean that lists a variable, with what it lists TIED to the program's text (the seventh form; the later family's looks); each row that meets fmt, with fmt's text TOLD by the authors' own Lean function (tested against real Go, not proved from fmt's source: count such statements apart). THE CARD IS WHAT COUNTS. Prove the row's statement (the work); the ties are given (YtpjmnnaiegdjmaaDoorTie.lean); close each card by the builder's one call (the guide's Derived/Test/ToyasCard.lean, 'card_holds'). Laid BY PROGRAM, IN A SANDBOX (cutbox-door.mjs). By AI agents, Wed Nov 11 2026. No macro, syntax, notation, axiom, sorry.
-/
import Derived.Test.YtpjmnnaiegdjmaaDoorRows
import GoSem.ClaimSeven
namespace Go.Proofs.YtpjmnnaiegdjmaaDoor
namespace Rows

/-- THE TIED CARD OF 'laws.FnExactScoreOf'. -/
def fnExactScoreOfCard : Claim7 := { stood := { row := fnExactScoreOfRow, standIns := [], harness := (true, "1f38cf585eb99f44b15c2b3a7f540d9d19a68effac819d0648bb6bf889d9a30a"), looks := false }, kinds := [], alts := [], laidByText := true, laidKinds := [.data], laidTests := true, laidLooks := .later }
def FnExactScoreOfCardSaid : Prop := Claim7.holds Tryd.pinned (.plain (OpenSpec.ofChange fnExactScoreOfSpec)) fnExactScoreOfCard

/-- THE TIED CARD OF 'laws.FnExactPickBackend'. -/
def fnExactPickBackendCard : Claim7 := { stood := { row := fnExactPickBackendRow, standIns := [], harness := (true, "1f38cf585eb99f44b15c2b3a7f540d9d19a68effac819d0648bb6bf889d9a30a"), looks := false }, kinds := [], alts := [], laidByText := true, laidKinds := [.data], laidTests := true, laidLooks := .later }
def FnExactPickBackendCardSaid : Prop := Claim7.holds Tryd.pinned (.plain (OpenSpec.ofChange fnExactPickBackendSpec)) fnExactPickBackendCard

/-- THE TIED CARD OF 'laws.FnExactRankBackends'. -/
def fnExactRankBackendsCard : Claim7 := { stood := { row := fnExactRankBackendsRow, standIns := [], harness := (true, "1f38cf585eb99f44b15c2b3a7f540d9d19a68effac819d0648bb6bf889d9a30a"), looks := false }, kinds := [], alts := [], laidByText := true, laidKinds := [.data], laidTests := true, laidLooks := .later }
def FnExactRankBackendsCardSaid : Prop := Claim7.holds Tryd.pinned (.plain (OpenSpec.ofChange fnExactRankBackendsSpec)) fnExactRankBackendsCard

/-- THE TIED CARD OF 'laws.FnExactMovedKeys'. -/
def fnExactMovedKeysCard : Claim7 := { stood := { row := fnExactMovedKeysRow, standIns := [], harness := (true, "1f38cf585eb99f44b15c2b3a7f540d9d19a68effac819d0648bb6bf889d9a30a"), looks := false }, kinds := [], alts := [], laidByText := true, laidKinds := [.data], laidTests := true, laidLooks := .later }
def FnExactMovedKeysCardSaid : Prop := Claim7.holds Tryd.pinned (.plain (OpenSpec.ofChange fnExactMovedKeysSpec)) fnExactMovedKeysCard

/-- THE TIED CARD OF 'laws.FnRendezvous'. -/
def fnRendezvousCard : Claim7 := { stood := { row := fnRendezvousRow, standIns := [], harness := (true, "1f38cf585eb99f44b15c2b3a7f540d9d19a68effac819d0648bb6bf889d9a30a"), looks := false }, kinds := [], alts := [], laidByText := true, laidKinds := [.data], laidTests := true, laidLooks := .later }
def FnRendezvousCardSaid : Prop := Claim7.holds Tryd.pinned (.plain (OpenSpec.ofChange fnRendezvousSpec)) fnRendezvousCard

/-- THE TIED CARD OF 'laws.FnRanked'. -/
def fnRankedCard : Claim7 := { stood := { row := fnRankedRow, standIns := [], harness := (true, "1f38cf585eb99f44b15c2b3a7f540d9d19a68effac819d0648bb6bf889d9a30a"), looks := false }, kinds := [], alts := [], laidByText := true, laidKinds := [.data], laidTests := true, laidLooks := .later }
def FnRankedCardSaid : Prop := Claim7.holds Tryd.pinned (.plain (OpenSpec.ofChange fnRankedSpec)) fnRankedCard

/-- THE SECOND FORM's CARD OF 'laws.FnExactScoreOf'. -/
def fnExactScoreOfUptoCard : Claim7 := { stood := { row := fnExactScoreOfUptoRow, standIns := [], harness := (true, "1f38cf585eb99f44b15c2b3a7f540d9d19a68effac819d0648bb6bf889d9a30a"), looks := false }, kinds := [], alts := [], laidByText := true, laidKinds := [.data], laidTests := true, laidLooks := .later }
def FnExactScoreOfUptoCardSaid : Prop := Claim7.holds Tryd.pinned (.plain (OpenSpec.upto fnExactScoreOfSpec)) fnExactScoreOfUptoCard

/-- THE SECOND FORM's CARD OF 'laws.FnExactPickBackend'. -/
def fnExactPickBackendUptoCard : Claim7 := { stood := { row := fnExactPickBackendUptoRow, standIns := [], harness := (true, "1f38cf585eb99f44b15c2b3a7f540d9d19a68effac819d0648bb6bf889d9a30a"), looks := false }, kinds := [], alts := [], laidByText := true, laidKinds := [.data], laidTests := true, laidLooks := .later }
def FnExactPickBackendUptoCardSaid : Prop := Claim7.holds Tryd.pinned (.plain (OpenSpec.upto fnExactPickBackendSpec)) fnExactPickBackendUptoCard

/-- THE SECOND FORM's CARD OF 'laws.FnExactRankBackends'. -/
def fnExactRankBackendsUptoCard : Claim7 := { stood := { row := fnExactRankBackendsUptoRow, standIns := [], harness := (true, "1f38cf585eb99f44b15c2b3a7f540d9d19a68effac819d0648bb6bf889d9a30a"), looks := false }, kinds := [], alts := [], laidByText := true, laidKinds := [.data], laidTests := true, laidLooks := .later }
def FnExactRankBackendsUptoCardSaid : Prop := Claim7.holds Tryd.pinned (.plain (OpenSpec.upto fnExactRankBackendsSpec)) fnExactRankBackendsUptoCard

/-- THE SECOND FORM's CARD OF 'laws.FnExactMovedKeys'. -/
def fnExactMovedKeysUptoCard : Claim7 := { stood := { row := fnExactMovedKeysUptoRow, standIns := [], harness := (true, "1f38cf585eb99f44b15c2b3a7f540d9d19a68effac819d0648bb6bf889d9a30a"), looks := false }, kinds := [], alts := [], laidByText := true, laidKinds := [.data], laidTests := true, laidLooks := .later }
def FnExactMovedKeysUptoCardSaid : Prop := Claim7.holds Tryd.pinned (.plain (OpenSpec.upto fnExactMovedKeysSpec)) fnExactMovedKeysUptoCard

/-- THE SECOND FORM's CARD OF 'laws.FnRendezvous'. -/
def fnRendezvousUptoCard : Claim7 := { stood := { row := fnRendezvousUptoRow, standIns := [], harness := (true, "1f38cf585eb99f44b15c2b3a7f540d9d19a68effac819d0648bb6bf889d9a30a"), looks := false }, kinds := [], alts := [], laidByText := true, laidKinds := [.data], laidTests := true, laidLooks := .later }
def FnRendezvousUptoCardSaid : Prop := Claim7.holds Tryd.pinned (.plain (OpenSpec.upto fnRendezvousSpec)) fnRendezvousUptoCard

/-- THE SECOND FORM's CARD OF 'laws.FnRanked'. -/
def fnRankedUptoCard : Claim7 := { stood := { row := fnRankedUptoRow, standIns := [], harness := (true, "1f38cf585eb99f44b15c2b3a7f540d9d19a68effac819d0648bb6bf889d9a30a"), looks := false }, kinds := [], alts := [], laidByText := true, laidKinds := [.data], laidTests := true, laidLooks := .later }
def FnRankedUptoCardSaid : Prop := Claim7.holds Tryd.pinned (.plain (OpenSpec.upto fnRankedSpec)) fnRankedUptoCard
end Rows
end Go.Proofs.YtpjmnnaiegdjmaaDoor
