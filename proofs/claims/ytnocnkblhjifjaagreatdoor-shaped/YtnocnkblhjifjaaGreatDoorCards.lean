/-
  DERIVED. GIVEN WITH THE SEED: THE CARDS: each row of YtnocnkblhjifjaaGreatDoorRows.lean that lists a variable, with what it lists TIED to the program's text (the seventh form; the later family's looks); each row that meets fmt, with fmt's text TOLD by the authors' own Lean function (tested against real Go, not proved from fmt's source: count such statements apart). THE CARD IS WHAT COUNTS. Prove the row's statement (the work); the ties are given (YtnocnkblhjifjaaGreatDoorTie.lean); close each card by the builder's one call (the guide's Derived/Test/ToyasCard.lean, 'card_holds'). Laid BY PROGRAM, IN A SANDBOX (cutbox-door.mjs). By AI agents, Wed Nov 11 2026. No macro, syntax, notation, axiom, sorry.
-/
import Derived.Test.YtnocnkblhjifjaaGreatDoorRows
import GoSem.ClaimSeven
namespace Go.Proofs.YtnocnkblhjifjaaGreatDoor
namespace Rows

/-- THE TIED CARD OF 'kilnlaw.Trees'. -/
def treesCard : Claim7 := { stood := { row := treesRow, standIns := [], harness := (true, "c43f44f89941c8242ed54024f7c6766b7833ffdbd4df0d2844fb4f940c90f379"), looks := true }, kinds := [], alts := [], laidByText := true, laidKinds := [.data, .pinned], laidTests := true, laidLooks := .later }
def TreesCardSaid : Prop := Claim7.holds Tryz.pinned (.plain (OpenSpec.ofChange treesSpec)) treesCard

/-- THE TIED CARD OF 'kilnkeep.Shaped'. -/
def shapedCard : Claim7 := { stood := { row := shapedRow, standIns := [], harness := (true, "c43f44f89941c8242ed54024f7c6766b7833ffdbd4df0d2844fb4f940c90f379"), looks := true }, kinds := [], alts := [], laidByText := true, laidKinds := [.data, .pinned], laidTests := true, laidLooks := .later }
def ShapedCardSaid : Prop := Claim7.holds Tryz.pinned (.plain (OpenSpec.ofChange shapedSpec)) shapedCard

/-- THE TIED CARD OF 'kilnlaw.Types'. -/
def typesCard : Claim7 := { stood := { row := typesRow, standIns := [], harness := (true, "c43f44f89941c8242ed54024f7c6766b7833ffdbd4df0d2844fb4f940c90f379"), looks := true }, kinds := [], alts := [], laidByText := true, laidKinds := [.data, .data, .data, .data, .pinned], laidTests := true, laidLooks := .later }
def TypesCardSaid : Prop := Claim7.holds Tryz.pinned (.plain (OpenSpec.ofChange typesSpec)) typesCard

/-- THE TIED CARD OF 'kilnkeep.Behind'. -/
def behindCard : Claim7 := { stood := { row := behindRow, standIns := [], harness := (true, "c43f44f89941c8242ed54024f7c6766b7833ffdbd4df0d2844fb4f940c90f379"), looks := true }, kinds := [], alts := [], laidByText := true, laidKinds := [.data, .data, .data, .data, .pinned], laidTests := true, laidLooks := .later }
def BehindCardSaid : Prop := Claim7.holds Tryz.pinned (.plain (OpenSpec.ofChange behindSpec)) behindCard

/-- THE TIED CARD OF 'kilnlaw.Matches'. -/
def matchesCard : Claim7 := { stood := { row := matchesRow, standIns := [], harness := (true, "c43f44f89941c8242ed54024f7c6766b7833ffdbd4df0d2844fb4f940c90f379"), looks := true }, kinds := [], alts := [], laidByText := true, laidKinds := [.data, .pinned], laidTests := true, laidLooks := .later }
def MatchesCardSaid : Prop := Claim7.holds Tryz.pinned (.plain (OpenSpec.ofChange matchesSpec)) matchesCard

/-- THE TIED CARD OF 'kilnlaw.Runs'. -/
def runsCard : Claim7 := { stood := { row := runsRow, standIns := [], harness := (true, "c43f44f89941c8242ed54024f7c6766b7833ffdbd4df0d2844fb4f940c90f379"), looks := true }, kinds := [], alts := [], laidByText := true, laidKinds := [.data, .data, .data, .data, .sentinel, .sentinel, .pinned], laidTests := true, laidLooks := .later }
def RunsCardSaid : Prop := Claim7.holds Tryz.pinned (.plain (OpenSpec.ofChange runsSpec)) runsCard

/-- THE TIED CARD OF 'kilnkeep.Reckoned'. -/
def reckonedCard : Claim7 := { stood := { row := reckonedRow, standIns := [], harness := (true, "c43f44f89941c8242ed54024f7c6766b7833ffdbd4df0d2844fb4f940c90f379"), looks := true }, kinds := [], alts := [], laidByText := true, laidKinds := [.data, .data, .data, .data, .sentinel, .sentinel, .pinned], laidTests := true, laidLooks := .later }
def ReckonedCardSaid : Prop := Claim7.holds Tryz.pinned (.plain (OpenSpec.ofChange reckonedSpec)) reckonedCard

/-- THE TIED CARD OF 'kilnkeep.Longer'. -/
def longerCard : Claim7 := { stood := { row := longerRow, standIns := [], harness := (true, "c43f44f89941c8242ed54024f7c6766b7833ffdbd4df0d2844fb4f940c90f379"), looks := true }, kinds := [], alts := [], laidByText := true, laidKinds := [.data, .data, .data, .data, .sentinel, .sentinel, .pinned], laidTests := true, laidLooks := .later }
def LongerCardSaid : Prop := Claim7.holds Tryz.pinned (.plain (OpenSpec.ofChange longerSpec)) longerCard

/-- THE TIED CARD OF 'kilnkeep.Covered'. -/
def coveredCard : Claim7 := { stood := { row := coveredRow, standIns := [], harness := (true, "c43f44f89941c8242ed54024f7c6766b7833ffdbd4df0d2844fb4f940c90f379"), looks := true }, kinds := [], alts := [], laidByText := true, laidKinds := [.data, .data, .data, .data, .sentinel, .sentinel, .pinned], laidTests := true, laidLooks := .later }
def CoveredCardSaid : Prop := Claim7.holds Tryz.pinned (.plain (OpenSpec.ofChange coveredSpec)) coveredCard

/-- THE TIED CARD OF 'kilnkeep.Sorted'. -/
def sortedCard : Claim7 := { stood := { row := sortedRow, standIns := [], harness := (true, "c43f44f89941c8242ed54024f7c6766b7833ffdbd4df0d2844fb4f940c90f379"), looks := true }, kinds := [], alts := [], laidByText := true, laidKinds := [.data, .data, .data, .data, .sentinel, .sentinel, .pinned], laidTests := true, laidLooks := .later }
def SortedCardSaid : Prop := Claim7.holds Tryz.pinned (.plain (OpenSpec.ofChange sortedSpec)) sortedCard

/-- THE SECOND FORM's CARD OF 'kilnlaw.Trees'. -/
def treesUptoCard : Claim7 := { stood := { row := treesUptoRow, standIns := [], harness := (true, "c43f44f89941c8242ed54024f7c6766b7833ffdbd4df0d2844fb4f940c90f379"), looks := true }, kinds := [], alts := [], laidByText := true, laidKinds := [.data, .pinned], laidTests := true, laidLooks := .later }
def TreesUptoCardSaid : Prop := Claim7.holds Tryz.pinned (.plain (OpenSpec.upto treesSpec)) treesUptoCard

/-- THE SECOND FORM's CARD OF 'kilnkeep.Shaped'. -/
def shapedUptoCard : Claim7 := { stood := { row := shapedUptoRow, standIns := [], harness := (true, "c43f44f89941c8242ed54024f7c6766b7833ffdbd4df0d2844fb4f940c90f379"), looks := true }, kinds := [], alts := [], laidByText := true, laidKinds := [.data, .pinned], laidTests := true, laidLooks := .later }
def ShapedUptoCardSaid : Prop := Claim7.holds Tryz.pinned (.plain (OpenSpec.upto shapedSpec)) shapedUptoCard

/-- THE SECOND FORM's CARD OF 'kilnlaw.Types'. -/
def typesUptoCard : Claim7 := { stood := { row := typesUptoRow, standIns := [], harness := (true, "c43f44f89941c8242ed54024f7c6766b7833ffdbd4df0d2844fb4f940c90f379"), looks := true }, kinds := [], alts := [], laidByText := true, laidKinds := [.data, .data, .data, .data, .pinned], laidTests := true, laidLooks := .later }
def TypesUptoCardSaid : Prop := Claim7.holds Tryz.pinned (.plain (OpenSpec.upto typesSpec)) typesUptoCard

/-- THE SECOND FORM's CARD OF 'kilnkeep.Behind'. -/
def behindUptoCard : Claim7 := { stood := { row := behindUptoRow, standIns := [], harness := (true, "c43f44f89941c8242ed54024f7c6766b7833ffdbd4df0d2844fb4f940c90f379"), looks := true }, kinds := [], alts := [], laidByText := true, laidKinds := [.data, .data, .data, .data, .pinned], laidTests := true, laidLooks := .later }
def BehindUptoCardSaid : Prop := Claim7.holds Tryz.pinned (.plain (OpenSpec.upto behindSpec)) behindUptoCard

/-- THE SECOND FORM's CARD OF 'kilnlaw.Matches'. -/
def matchesUptoCard : Claim7 := { stood := { row := matchesUptoRow, standIns := [], harness := (true, "c43f44f89941c8242ed54024f7c6766b7833ffdbd4df0d2844fb4f940c90f379"), looks := true }, kinds := [], alts := [], laidByText := true, laidKinds := [.data, .pinned], laidTests := true, laidLooks := .later }
def MatchesUptoCardSaid : Prop := Claim7.holds Tryz.pinned (.plain (OpenSpec.upto matchesSpec)) matchesUptoCard

/-- THE SECOND FORM's CARD OF 'kilnlaw.Runs'. -/
def runsUptoCard : Claim7 := { stood := { row := runsUptoRow, standIns := [], harness := (true, "c43f44f89941c8242ed54024f7c6766b7833ffdbd4df0d2844fb4f940c90f379"), looks := true }, kinds := [], alts := [], laidByText := true, laidKinds := [.data, .data, .data, .data, .sentinel, .sentinel, .pinned], laidTests := true, laidLooks := .later }
def RunsUptoCardSaid : Prop := Claim7.holds Tryz.pinned (.plain (OpenSpec.upto runsSpec)) runsUptoCard

/-- THE SECOND FORM's CARD OF 'kilnkeep.Reckoned'. -/
def reckonedUptoCard : Claim7 := { stood := { row := reckonedUptoRow, standIns := [], harness := (true, "c43f44f89941c8242ed54024f7c6766b7833ffdbd4df0d2844fb4f940c90f379"), looks := true }, kinds := [], alts := [], laidByText := true, laidKinds := [.data, .data, .data, .data, .sentinel, .sentinel, .pinned], laidTests := true, laidLooks := .later }
def ReckonedUptoCardSaid : Prop := Claim7.holds Tryz.pinned (.plain (OpenSpec.upto reckonedSpec)) reckonedUptoCard

/-- THE SECOND FORM's CARD OF 'kilnkeep.Longer'. -/
def longerUptoCard : Claim7 := { stood := { row := longerUptoRow, standIns := [], harness := (true, "c43f44f89941c8242ed54024f7c6766b7833ffdbd4df0d2844fb4f940c90f379"), looks := true }, kinds := [], alts := [], laidByText := true, laidKinds := [.data, .data, .data, .data, .sentinel, .sentinel, .pinned], laidTests := true, laidLooks := .later }
def LongerUptoCardSaid : Prop := Claim7.holds Tryz.pinned (.plain (OpenSpec.upto longerSpec)) longerUptoCard

/-- THE SECOND FORM's CARD OF 'kilnkeep.Covered'. -/
def coveredUptoCard : Claim7 := { stood := { row := coveredUptoRow, standIns := [], harness := (true, "c43f44f89941c8242ed54024f7c6766b7833ffdbd4df0d2844fb4f940c90f379"), looks := true }, kinds := [], alts := [], laidByText := true, laidKinds := [.data, .data, .data, .data, .sentinel, .sentinel, .pinned], laidTests := true, laidLooks := .later }
def CoveredUptoCardSaid : Prop := Claim7.holds Tryz.pinned (.plain (OpenSpec.upto coveredSpec)) coveredUptoCard

/-- THE SECOND FORM's CARD OF 'kilnkeep.Sorted'. -/
def sortedUptoCard : Claim7 := { stood := { row := sortedUptoRow, standIns := [], harness := (true, "c43f44f89941c8242ed54024f7c6766b7833ffdbd4df0d2844fb4f940c90f379"), looks := true }, kinds := [], alts := [], laidByText := true, laidKinds := [.data, .data, .data, .data, .sentinel, .sentinel, .pinned], laidTests := true, laidLooks := .later }
def SortedUptoCardSaid : Prop := Claim7.holds Tryz.pinned (.plain (OpenSpec.upto sortedSpec)) sortedUptoCard
end Rows
end Go.Proofs.YtnocnkblhjifjaaGreatDoor
