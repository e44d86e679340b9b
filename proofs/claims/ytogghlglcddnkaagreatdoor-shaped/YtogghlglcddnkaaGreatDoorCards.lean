/-
  DERIVED. GIVEN WITH THE SEED: THE CARDS: each row of YtogghlglcddnkaaGreatDoorRows.lean that lists a variable, with what it lists TIED to the program's text (the seventh form; the later family's looks); each row that meets fmt, with fmt's text TOLD by the authors' own Lean function (tested against real Go, not proved from fmt's source: count such statements apart). THE CARD IS WHAT COUNTS. Prove the row's statement (the work); the ties are given (YtogghlglcddnkaaGreatDoorTie.lean); close each card by the builder's one call (the guide's Derived/Test/ToyasCard.lean, 'card_holds'). Laid BY PROGRAM, IN A SANDBOX (cutbox-door.mjs). By AI agents, Wed Nov 11 2026. No macro, syntax, notation, axiom, sorry.
-/
import Derived.Test.YtogghlglcddnkaaGreatDoorRows
import GoSem.ClaimSeven
namespace Go.Proofs.YtogghlglcddnkaaGreatDoor
namespace Rows

/-- THE TIED CARD OF 'kilnlaw.Trees'. -/
def treesCard : Claim7 := { stood := { row := treesRow, standIns := [], harness := (true, "c802886331267e061ce493c4f75255b90218104bceed67f1c5210bb30dc5fce7"), looks := true }, kinds := [], alts := [], laidByText := true, laidKinds := [.data, .pinned], laidTests := true, laidLooks := .later }
def TreesCardSaid : Prop := Claim7.holds Tryz.pinned (.plain (OpenSpec.ofChange treesSpec)) treesCard

/-- THE TIED CARD OF 'kilnkeep.Shaped'. -/
def shapedCard : Claim7 := { stood := { row := shapedRow, standIns := [], harness := (true, "c802886331267e061ce493c4f75255b90218104bceed67f1c5210bb30dc5fce7"), looks := true }, kinds := [], alts := [], laidByText := true, laidKinds := [.data, .pinned], laidTests := true, laidLooks := .later }
def ShapedCardSaid : Prop := Claim7.holds Tryz.pinned (.plain (OpenSpec.ofChange shapedSpec)) shapedCard

/-- THE TIED CARD OF 'kilnlaw.Types'. -/
def typesCard : Claim7 := { stood := { row := typesRow, standIns := [], harness := (true, "c802886331267e061ce493c4f75255b90218104bceed67f1c5210bb30dc5fce7"), looks := true }, kinds := [], alts := [], laidByText := true, laidKinds := [.data, .data, .data, .data, .pinned], laidTests := true, laidLooks := .later }
def TypesCardSaid : Prop := Claim7.holds Tryz.pinned (.plain (OpenSpec.ofChange typesSpec)) typesCard

/-- THE TIED CARD OF 'kilnkeep.Behind'. -/
def behindCard : Claim7 := { stood := { row := behindRow, standIns := [], harness := (true, "c802886331267e061ce493c4f75255b90218104bceed67f1c5210bb30dc5fce7"), looks := true }, kinds := [], alts := [], laidByText := true, laidKinds := [.data, .data, .data, .data, .pinned], laidTests := true, laidLooks := .later }
def BehindCardSaid : Prop := Claim7.holds Tryz.pinned (.plain (OpenSpec.ofChange behindSpec)) behindCard

/-- THE TIED CARD OF 'kilnlaw.Matches'. -/
def matchesCard : Claim7 := { stood := { row := matchesRow, standIns := [], harness := (true, "c802886331267e061ce493c4f75255b90218104bceed67f1c5210bb30dc5fce7"), looks := true }, kinds := [], alts := [], laidByText := true, laidKinds := [.data, .pinned], laidTests := true, laidLooks := .later }
def MatchesCardSaid : Prop := Claim7.holds Tryz.pinned (.plain (OpenSpec.ofChange matchesSpec)) matchesCard

/-- THE SECOND FORM's CARD OF 'kilnlaw.Trees'. -/
def treesUptoCard : Claim7 := { stood := { row := treesUptoRow, standIns := [], harness := (true, "c802886331267e061ce493c4f75255b90218104bceed67f1c5210bb30dc5fce7"), looks := true }, kinds := [], alts := [], laidByText := true, laidKinds := [.data, .pinned], laidTests := true, laidLooks := .later }
def TreesUptoCardSaid : Prop := Claim7.holds Tryz.pinned (.plain (OpenSpec.upto treesSpec)) treesUptoCard

/-- THE SECOND FORM's CARD OF 'kilnkeep.Shaped'. -/
def shapedUptoCard : Claim7 := { stood := { row := shapedUptoRow, standIns := [], harness := (true, "c802886331267e061ce493c4f75255b90218104bceed67f1c5210bb30dc5fce7"), looks := true }, kinds := [], alts := [], laidByText := true, laidKinds := [.data, .pinned], laidTests := true, laidLooks := .later }
def ShapedUptoCardSaid : Prop := Claim7.holds Tryz.pinned (.plain (OpenSpec.upto shapedSpec)) shapedUptoCard

/-- THE SECOND FORM's CARD OF 'kilnlaw.Types'. -/
def typesUptoCard : Claim7 := { stood := { row := typesUptoRow, standIns := [], harness := (true, "c802886331267e061ce493c4f75255b90218104bceed67f1c5210bb30dc5fce7"), looks := true }, kinds := [], alts := [], laidByText := true, laidKinds := [.data, .data, .data, .data, .pinned], laidTests := true, laidLooks := .later }
def TypesUptoCardSaid : Prop := Claim7.holds Tryz.pinned (.plain (OpenSpec.upto typesSpec)) typesUptoCard

/-- THE SECOND FORM's CARD OF 'kilnkeep.Behind'. -/
def behindUptoCard : Claim7 := { stood := { row := behindUptoRow, standIns := [], harness := (true, "c802886331267e061ce493c4f75255b90218104bceed67f1c5210bb30dc5fce7"), looks := true }, kinds := [], alts := [], laidByText := true, laidKinds := [.data, .data, .data, .data, .pinned], laidTests := true, laidLooks := .later }
def BehindUptoCardSaid : Prop := Claim7.holds Tryz.pinned (.plain (OpenSpec.upto behindSpec)) behindUptoCard

/-- THE SECOND FORM's CARD OF 'kilnlaw.Matches'. -/
def matchesUptoCard : Claim7 := { stood := { row := matchesUptoRow, standIns := [], harness := (true, "c802886331267e061ce493c4f75255b90218104bceed67f1c5210bb30dc5fce7"), looks := true }, kinds := [], alts := [], laidByText := true, laidKinds := [.data, .pinned], laidTests := true, laidLooks := .later }
def MatchesUptoCardSaid : Prop := Claim7.holds Tryz.pinned (.plain (OpenSpec.upto matchesSpec)) matchesUptoCard
end Rows
end Go.Proofs.YtogghlglcddnkaaGreatDoor
