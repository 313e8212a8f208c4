/-
  DERIVED. GIVEN WITH THE SEED: THE CARDS: each row of YthkgadjiiapfgaaGreatDoorRows.lean that lists a variable, with what it lists TIED to the program's text (the seventh form; the later family's looks); each row that meets fmt, with fmt's text TOLD by the authors' own Lean function (tested against real Go, not proved from fmt's source: count such statements apart). THE CARD IS WHAT COUNTS. Prove the row's statement (the work); the ties are given (YthkgadjiiapfgaaGreatDoorTie.lean); close each card by the builder's one call (the guide's Derived/Test/ToyasCard.lean, 'card_holds'). Laid BY PROGRAM, IN A SANDBOX (cutbox-door.mjs). By AI agents, Wed Nov 11 2026. No macro, syntax, notation, axiom, sorry.
-/
import Derived.Test.YthkgadjiiapfgaaGreatDoorRows
import GoSem.ClaimSeven
namespace Go.Proofs.YthkgadjiiapfgaaGreatDoor
namespace Rows

/-- THE TIED CARD OF 'hallmootlaw09.StateDoes'. -/
def stateDoesCard : Claim7 := { stood := { row := stateDoesRow, standIns := [], harness := (true, "110a63dfdf14600c780c4d7c2cb997d1a98e4ec0f39388adfdbd1038ddfe5e52"), looks := true }, kinds := [], alts := [], laidByText := true, laidKinds := [.data, .data, .data, .data, .pinned], laidTests := true, laidLooks := .later }
def StateDoesCardSaid : Prop := Claim7.holds Tryz.pinned (.plain (OpenSpec.ofChange stateDoesSpec)) stateDoesCard

/-- THE SECOND FORM's CARD OF 'hallmootlaw09.StateDoes'. -/
def stateDoesUptoCard : Claim7 := { stood := { row := stateDoesUptoRow, standIns := [], harness := (true, "110a63dfdf14600c780c4d7c2cb997d1a98e4ec0f39388adfdbd1038ddfe5e52"), looks := true }, kinds := [], alts := [], laidByText := true, laidKinds := [.data, .data, .data, .data, .pinned], laidTests := true, laidLooks := .later }
def StateDoesUptoCardSaid : Prop := Claim7.holds Tryz.pinned (.plain (OpenSpec.upto stateDoesSpec)) stateDoesUptoCard
end Rows
end Go.Proofs.YthkgadjiiapfgaaGreatDoor
