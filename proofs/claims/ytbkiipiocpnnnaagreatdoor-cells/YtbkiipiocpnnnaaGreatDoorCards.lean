/-
  DERIVED. GIVEN WITH THE SEED: THE CARDS: each row of YtbkiipiocpnnnaaGreatDoorRows.lean that lists a variable, with what it lists TIED to the program's text (the seventh form; the later family's looks); each row that meets fmt, with fmt's text TOLD by the authors' own Lean function (tested against real Go, not proved from fmt's source: count such statements apart). THE CARD IS WHAT COUNTS. Prove the row's statement (the work); the ties are given (YtbkiipiocpnnnaaGreatDoorTie.lean); close each card by the builder's one call (the guide's Derived/Test/ToyasCard.lean, 'card_holds'). Laid BY PROGRAM, IN A SANDBOX (cutbox-door.mjs). By AI agents, Wed Nov 11 2026. No macro, syntax, notation, axiom, sorry.
-/
import Derived.Test.YtbkiipiocpnnnaaGreatDoorRows
import GoSem.ClaimSeven
namespace Go.Proofs.YtbkiipiocpnnnaaGreatDoor
namespace Rows

/-- THE TIED CARD OF 'kilnkeep.Cells'. -/
def cellsCard : Claim7 := { stood := { row := cellsRow, standIns := [], harness := (true, "c6ea2543365a88a8119fb018fb10d95a4fb49c908b6cd500466dc37120c2db16"), looks := true }, kinds := [], alts := [], laidByText := true, laidKinds := [.data, .data, .data, .data, .sentinel, .sentinel, .pinned], laidTests := true, laidLooks := .later }
def CellsCardSaid : Prop := Claim7.holds Tryz.pinned (.plain (OpenSpec.ofChange cellsSpec)) cellsCard

/-- THE SECOND FORM's CARD OF 'kilnkeep.Cells'. -/
def cellsUptoCard : Claim7 := { stood := { row := cellsUptoRow, standIns := [], harness := (true, "c6ea2543365a88a8119fb018fb10d95a4fb49c908b6cd500466dc37120c2db16"), looks := true }, kinds := [], alts := [], laidByText := true, laidKinds := [.data, .data, .data, .data, .sentinel, .sentinel, .pinned], laidTests := true, laidLooks := .later }
def CellsUptoCardSaid : Prop := Claim7.holds Tryz.pinned (.plain (OpenSpec.upto cellsSpec)) cellsUptoCard
end Rows
end Go.Proofs.YtbkiipiocpnnnaaGreatDoor
