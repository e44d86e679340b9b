/-
  DERIVED. GIVEN WITH THE SEED: THE CARDS: each row of YtcbppnefeonmgaaGreatDoorRows.lean that lists a variable, with what it lists TIED to the program's text (the seventh form; the later family's looks); each row that meets fmt, with fmt's text TOLD by the authors' own Lean function (tested against real Go, not proved from fmt's source: count such statements apart). THE CARD IS WHAT COUNTS. Prove the row's statement (the work); the ties are given (YtcbppnefeonmgaaGreatDoorTie.lean); close each card by the builder's one call (the guide's Derived/Test/ToyasCard.lean, 'card_holds'). Laid BY PROGRAM, IN A SANDBOX (cutbox-door.mjs). By AI agents, Wed Nov 11 2026. No macro, syntax, notation, axiom, sorry.
-/
import Derived.Test.YtcbppnefeonmgaaGreatDoorRows
import GoSem.ClaimSeven
namespace Go.Proofs.YtcbppnefeonmgaaGreatDoor
namespace Rows

/-- THE TIED CARD OF 'kilnlaw.Trees'. -/
def treesCard : Claim7 := { stood := { row := treesRow, standIns := [], harness := (true, "776028a54d2c24ea125665f4411c3664d9de4b894f5167f0d80641c01c3bb47f"), looks := true }, kinds := [], alts := [], laidByText := true, laidKinds := [.data, .pinned], laidTests := true, laidLooks := .later }
def TreesCardSaid : Prop := Claim7.holds Tryz.pinned (.plain (OpenSpec.ofChange treesSpec)) treesCard

/-- THE TIED CARD OF 'kilnkeep.Behind'. -/
def behindCard : Claim7 := { stood := { row := behindRow, standIns := [], harness := (true, "776028a54d2c24ea125665f4411c3664d9de4b894f5167f0d80641c01c3bb47f"), looks := true }, kinds := [], alts := [], laidByText := true, laidKinds := [.data, .data, .data, .data, .pinned], laidTests := true, laidLooks := .later }
def BehindCardSaid : Prop := Claim7.holds Tryz.pinned (.plain (OpenSpec.ofChange behindSpec)) behindCard

/-- THE SECOND FORM's CARD OF 'kilnlaw.Trees'. -/
def treesUptoCard : Claim7 := { stood := { row := treesUptoRow, standIns := [], harness := (true, "776028a54d2c24ea125665f4411c3664d9de4b894f5167f0d80641c01c3bb47f"), looks := true }, kinds := [], alts := [], laidByText := true, laidKinds := [.data, .pinned], laidTests := true, laidLooks := .later }
def TreesUptoCardSaid : Prop := Claim7.holds Tryz.pinned (.plain (OpenSpec.upto treesSpec)) treesUptoCard

/-- THE SECOND FORM's CARD OF 'kilnkeep.Behind'. -/
def behindUptoCard : Claim7 := { stood := { row := behindUptoRow, standIns := [], harness := (true, "776028a54d2c24ea125665f4411c3664d9de4b894f5167f0d80641c01c3bb47f"), looks := true }, kinds := [], alts := [], laidByText := true, laidKinds := [.data, .data, .data, .data, .pinned], laidTests := true, laidLooks := .later }
def BehindUptoCardSaid : Prop := Claim7.holds Tryz.pinned (.plain (OpenSpec.upto behindSpec)) behindUptoCard
end Rows
end Go.Proofs.YtcbppnefeonmgaaGreatDoor
