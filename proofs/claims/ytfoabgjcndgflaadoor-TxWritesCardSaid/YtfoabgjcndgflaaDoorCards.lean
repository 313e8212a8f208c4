/-
  DERIVED. GIVEN WITH THE SEED: THE CARDS: each row of YtfoabgjcndgflaaDoorRows.lean that lists a variable, with what it lists TIED to the program's text (the seventh form; the later family's looks); each row that meets fmt, with fmt's text TOLD by the authors' own Lean function (tested against real Go, not proved from fmt's source: count such statements apart). THE CARD IS WHAT COUNTS. Prove the row's statement (the work); the ties are given (YtfoabgjcndgflaaDoorTie.lean); close each card by the builder's one call (the guide's Derived/Test/ToyasCard.lean, 'card_holds'). Laid BY PROGRAM, IN A SANDBOX (cutbox-door.mjs). By AI agents, Wed Nov 11 2026. No macro, syntax, notation, axiom, sorry.
-/
import Derived.Test.YtfoabgjcndgflaaDoorRows
import GoSem.ClaimSeven
namespace Go.Proofs.YtfoabgjcndgflaaDoor
namespace Rows

/-- THE TIED CARD OF 'hallmootlaw08.TxWrites'. -/
def txWritesCard : Claim7 := { stood := { row := txWritesRow, standIns := [], harness := (true, "996530b2131b2fa5bed0e7c5cdcd25198ec185b5eaf037114a149157d627fb81"), looks := false }, kinds := [], alts := [], laidByText := true, laidKinds := [.data, .data, .data, .data, .pinned], laidTests := true, laidLooks := .later }
def TxWritesCardSaid : Prop := Claim7.holds Tryd.pinned (.plain (OpenSpec.ofChange txWritesSpec)) txWritesCard

/-- THE TIED CARD OF 'hallmootlaw08.TxParses'. -/
def txParsesCard : Claim7 := { stood := { row := txParsesRow, standIns := [], harness := (true, "996530b2131b2fa5bed0e7c5cdcd25198ec185b5eaf037114a149157d627fb81"), looks := false }, kinds := [], alts := [], laidByText := true, laidKinds := [.data, .data, .data, .data, .pinned], laidTests := true, laidLooks := .later }
def TxParsesCardSaid : Prop := Claim7.holds Tryd.pinned (.plain (OpenSpec.ofChange txParsesSpec)) txParsesCard

/-- THE TIED CARD OF 'hallmootlaw08.TxBack'. -/
def txBackCard : Claim7 := { stood := { row := txBackRow, standIns := [], harness := (true, "996530b2131b2fa5bed0e7c5cdcd25198ec185b5eaf037114a149157d627fb81"), looks := false }, kinds := [], alts := [], laidByText := true, laidKinds := [.data, .data, .data, .data, .pinned], laidTests := true, laidLooks := .later }
def TxBackCardSaid : Prop := Claim7.holds Tryd.pinned (.plain (OpenSpec.ofChange txBackSpec)) txBackCard

/-- THE SECOND FORM's CARD OF 'hallmootlaw08.TxWrites'. -/
def txWritesUptoCard : Claim7 := { stood := { row := txWritesUptoRow, standIns := [], harness := (true, "996530b2131b2fa5bed0e7c5cdcd25198ec185b5eaf037114a149157d627fb81"), looks := false }, kinds := [], alts := [], laidByText := true, laidKinds := [.data, .data, .data, .data, .pinned], laidTests := true, laidLooks := .later }
def TxWritesUptoCardSaid : Prop := Claim7.holds Tryd.pinned (.plain (OpenSpec.upto txWritesSpec)) txWritesUptoCard

/-- THE SECOND FORM's CARD OF 'hallmootlaw08.TxParses'. -/
def txParsesUptoCard : Claim7 := { stood := { row := txParsesUptoRow, standIns := [], harness := (true, "996530b2131b2fa5bed0e7c5cdcd25198ec185b5eaf037114a149157d627fb81"), looks := false }, kinds := [], alts := [], laidByText := true, laidKinds := [.data, .data, .data, .data, .pinned], laidTests := true, laidLooks := .later }
def TxParsesUptoCardSaid : Prop := Claim7.holds Tryd.pinned (.plain (OpenSpec.upto txParsesSpec)) txParsesUptoCard

/-- THE SECOND FORM's CARD OF 'hallmootlaw08.TxBack'. -/
def txBackUptoCard : Claim7 := { stood := { row := txBackUptoRow, standIns := [], harness := (true, "996530b2131b2fa5bed0e7c5cdcd25198ec185b5eaf037114a149157d627fb81"), looks := false }, kinds := [], alts := [], laidByText := true, laidKinds := [.data, .data, .data, .data, .pinned], laidTests := true, laidLooks := .later }
def TxBackUptoCardSaid : Prop := Claim7.holds Tryd.pinned (.plain (OpenSpec.upto txBackSpec)) txBackUptoCard
end Rows
end Go.Proofs.YtfoabgjcndgflaaDoor
