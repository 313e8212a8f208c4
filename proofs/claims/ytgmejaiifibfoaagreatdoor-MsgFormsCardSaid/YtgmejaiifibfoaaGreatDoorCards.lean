/-
  DERIVED. GIVEN WITH THE SEED: THE CARDS: each row of YtgmejaiifibfoaaGreatDoorRows.lean that lists a variable, with what it lists TIED to the program's text (the seventh form; the later family's looks); each row that meets fmt, with fmt's text TOLD by the authors' own Lean function (tested against real Go, not proved from fmt's source: count such statements apart). THE CARD IS WHAT COUNTS. Prove the row's statement (the work); the ties are given (YtgmejaiifibfoaaGreatDoorTie.lean); close each card by the builder's one call (the guide's Derived/Test/ToyasCard.lean, 'card_holds'). Laid BY PROGRAM, IN A SANDBOX (cutbox-door.mjs). By AI agents, Wed Nov 11 2026. No macro, syntax, notation, axiom, sorry.
-/
import Derived.Test.YtgmejaiifibfoaaGreatDoorRows
import GoSem.ClaimSeven
namespace Go.Proofs.YtgmejaiifibfoaaGreatDoor
namespace Rows

/-- THE TIED CARD OF 'hallmootlaw14.MsgForms'. -/
def msgFormsCard : Claim7 := { stood := { row := msgFormsRow, standIns := [], harness := (true, "1f5007ced34ec6faa8683c0441099c1187937d79c2d2180120fb8b2807320dca"), looks := true }, kinds := [], alts := [], laidByText := true, laidKinds := [.data, .pinned], laidTests := true, laidLooks := .later }
def MsgFormsCardSaid : Prop := Claim7.holds Tryz.pinned (.plain (OpenSpec.ofChange msgFormsSpec)) msgFormsCard

/-- THE TIED CARD OF 'hallmootlaw14.MsgSame'. -/
def msgSameCard : Claim7 := { stood := { row := msgSameRow, standIns := [], harness := (true, "1f5007ced34ec6faa8683c0441099c1187937d79c2d2180120fb8b2807320dca"), looks := true }, kinds := [], alts := [], laidByText := true, laidKinds := [.data, .pinned], laidTests := true, laidLooks := .later }
def MsgSameCardSaid : Prop := Claim7.holds Tryz.pinned (.plain (OpenSpec.ofChange msgSameSpec)) msgSameCard

/-- THE SECOND FORM's CARD OF 'hallmootlaw14.MsgForms'. -/
def msgFormsUptoCard : Claim7 := { stood := { row := msgFormsUptoRow, standIns := [], harness := (true, "1f5007ced34ec6faa8683c0441099c1187937d79c2d2180120fb8b2807320dca"), looks := true }, kinds := [], alts := [], laidByText := true, laidKinds := [.data, .pinned], laidTests := true, laidLooks := .later }
def MsgFormsUptoCardSaid : Prop := Claim7.holds Tryz.pinned (.plain (OpenSpec.upto msgFormsSpec)) msgFormsUptoCard

/-- THE SECOND FORM's CARD OF 'hallmootlaw14.MsgSame'. -/
def msgSameUptoCard : Claim7 := { stood := { row := msgSameUptoRow, standIns := [], harness := (true, "1f5007ced34ec6faa8683c0441099c1187937d79c2d2180120fb8b2807320dca"), looks := true }, kinds := [], alts := [], laidByText := true, laidKinds := [.data, .pinned], laidTests := true, laidLooks := .later }
def MsgSameUptoCardSaid : Prop := Claim7.holds Tryz.pinned (.plain (OpenSpec.upto msgSameSpec)) msgSameUptoCard
end Rows
end Go.Proofs.YtgmejaiifibfoaaGreatDoor
