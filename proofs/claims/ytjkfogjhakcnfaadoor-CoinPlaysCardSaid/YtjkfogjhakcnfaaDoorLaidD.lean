/-
  The rows' table of math/bits, and a world for the witness that holds it.
-/
import Derived.Test.YtjkfogjhakcnfaaDoorRowKit
import Derived.Test.YtjkfogjhakcnfaaDoorCards
import Derived.Test.YtjkfogjhakcnfaaDoorTie
set_option linter.unusedSimpArgs false
set_option linter.unusedVariables false
namespace Go.Proofs.YtjkfogjhakcnfaaDoor
open Go.ChangeShapes Go.WideShapes Go.ChangeAt Go.RowKit Go.Lib

theorem gTab : Tryd.prog.globalNamed "math/bits.deBruijn32tab" = some 0 := by kernel_rfl
theorem gTabType : (Tryd.prog.globals[0]?).map (·.type) = some 88 := by kernel_rfl
theorem cellsTab : Tryd.prog.cellsOf 88 = 32 := by kernel_rfl
theorem cellsU8 : Tryd.prog.cellsOf 5 = 1 := by kernel_rfl
def tab32 : List Int := [0, 1, 28, 2, 29, 14, 24, 3, 30, 22, 20, 15, 25, 17, 4, 8, 31, 27, 13, 23, 21, 19, 16, 7, 26, 12, 18, 6, 11, 5, 10, 9]
/-- The rows' list of package-level tables: the same in each row. -/
def lst {H : Type} : List (String × DataW H) := [("math/bits.deBruijn32tab", Rows.laid_math_bits_deBruijn32tab)]
theorem lst_eq : (lst : List (String × DataW Unit)) = [("math/bits.deBruijn32tab", tabData .u8 tab32)] := by kernel_rfl
theorem tab_cells : ∀ j, j < 32 → tab32.getD j 0 = ((Lib.deBruijn32tab.getD j 0 : Nat) : Int) := by decide +kernel
theorem table {W : World} (h : laidMetH Tryd.prog lst W) : Tab W := by
  have h1 : laidMet Tryd.prog [("math/bits.deBruijn32tab", tabData .u8 tab32)] W := by rw [← lst_eq]; exact h
  have h2 := Lib.tabIs_of_head (rest := []) gTab gTabType Tryd.underlying88 Tryd.underlying5 cellsU8 cellsTab h1
  intro j hj
  have h3 := h2.cell gTab j (show j < tab32.length from hj)
  rw [tab_cells j hj] at h3
  exact h3
/-- A block of cells that holds these. -/
def putTab (cs : List Value) : Obj → Obj
  | .cells _ t frozen => .cells cs.toArray t frozen
  | o => o
/-- A world for the witness: the settled one, the listed table holding what its initialiser lays. -/
noncomputable def laidWorld (os : Os) : World :=
  { World.holding Tryd.prog os ⟨#[], #[], []⟩ with heap := (World.holding Tryd.prog os ⟨#[], #[], []⟩).heap.modify 0 (putTab (tab32.map (Value.int .u8))) }
end Go.Proofs.YtjkfogjhakcnfaaDoor
