/-
  DERIVED. GIVEN WITH THE SEED: THE CARDS: each row of YtgmejaiifibfoaaDoorRows.lean that lists a variable, with what it lists TIED to the program's text (the seventh form; the later family's looks); each row that meets fmt, with fmt's text TOLD by the authors' own Lean function (tested against real Go, not proved from fmt's source: count such statements apart). THE CARD IS WHAT COUNTS. Prove the row's statement (the work); the ties are given (YtgmejaiifibfoaaDoorTie.lean); close each card by the builder's one call (the guide's Derived/Test/ToyasCard.lean, 'card_holds'). Laid BY PROGRAM, IN A SANDBOX (cutbox-door.mjs). By AI agents, Wed Nov 11 2026. No macro, syntax, notation, axiom, sorry.
-/
import Derived.Test.YtgmejaiifibfoaaDoorRows
import GoSem.ClaimSeven
namespace Go.Proofs.YtgmejaiifibfoaaDoor
namespace Rows

/-- THE TIED CARD OF 'hallmootlaw14.MsgBack'. -/
def msgBackCard : Claim7 := { stood := { row := msgBackRow, standIns := [], harness := (true, "2cdc4c0521e3d6dbc573e02657b46726aad83dd817d3b17b25c8f2f4b0ff771a"), looks := true }, kinds := [], alts := [], laidByText := true, laidKinds := [.data, .pinned], laidTests := true, laidLooks := .later }
def MsgBackCardSaid : Prop := Claim7.holds Tryd.pinned (.plain (OpenSpec.ofChange msgBackSpec)) msgBackCard

/-- THE TIED CARD OF 'hallmootlaw14.MsgFirst'. -/
def msgFirstCard : Claim7 := { stood := { row := msgFirstRow, standIns := [], harness := (true, "2cdc4c0521e3d6dbc573e02657b46726aad83dd817d3b17b25c8f2f4b0ff771a"), looks := true }, kinds := [], alts := [], laidByText := true, laidKinds := [.data, .pinned], laidTests := true, laidLooks := .later }
def MsgFirstCardSaid : Prop := Claim7.holds Tryd.pinned (.plain (OpenSpec.ofChange msgFirstSpec)) msgFirstCard

/-- THE SECOND FORM's CARD OF 'hallmootlaw14.MsgBack'. -/
def msgBackUptoCard : Claim7 := { stood := { row := msgBackUptoRow, standIns := [], harness := (true, "2cdc4c0521e3d6dbc573e02657b46726aad83dd817d3b17b25c8f2f4b0ff771a"), looks := true }, kinds := [], alts := [], laidByText := true, laidKinds := [.data, .pinned], laidTests := true, laidLooks := .later }
def MsgBackUptoCardSaid : Prop := Claim7.holds Tryd.pinned (.plain (OpenSpec.upto msgBackSpec)) msgBackUptoCard

/-- THE SECOND FORM's CARD OF 'hallmootlaw14.MsgFirst'. -/
def msgFirstUptoCard : Claim7 := { stood := { row := msgFirstUptoRow, standIns := [], harness := (true, "2cdc4c0521e3d6dbc573e02657b46726aad83dd817d3b17b25c8f2f4b0ff771a"), looks := true }, kinds := [], alts := [], laidByText := true, laidKinds := [.data, .pinned], laidTests := true, laidLooks := .later }
def MsgFirstUptoCardSaid : Prop := Claim7.holds Tryd.pinned (.plain (OpenSpec.upto msgFirstSpec)) msgFirstUptoCard
end Rows
end Go.Proofs.YtgmejaiifibfoaaDoor
