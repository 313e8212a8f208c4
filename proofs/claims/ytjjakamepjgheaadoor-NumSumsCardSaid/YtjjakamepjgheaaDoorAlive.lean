/-
  The chapter's examples hold: contract of the laws' common check.
-/
import Derived.Test.YtjjakamepjgheaaDoorPrint
import Derived.Test.YtjjakamepjgheaaDoorMul
import Derived.Test.YtjjakamepjgheaaDoorRefRead
import Derived.Deep.QuietTactic
import Derived.BigQuiet
set_option linter.unusedSimpArgs false
set_option linter.unusedVariables false
namespace Go.Proofs.YtjjakamepjgheaaDoor
open Go.RowKit Go.Lib

theorem add_over (w : World) : Calls Tryd.prog 8 #[.int .i64 4611686018427387904, .int .i64 1] w fun e w' => e = .returned (.tuple #[.int .i64 0, .int .i64 10]) ∧ w = w' :=
  (add_any 4611686018427387904 1 w (by omega) (by omega) (by omega) (by omega)).mono fun _ _ ⟨he, hw⟩ => ⟨he.trans (two_eq (by decide +kernel) (by decide +kernel)).symm, hw⟩
theorem read_12 (w : World) : Calls Tryd.prog 16 #[.string { data := #[45, 49, 50] }, .int .i64 (-20), .int .i64 20] w fun e w' => e = .returned (.tuple #[.int .i64 (-12), .int .i64 0]) ∧ Below w.heap.size w w' :=
  (read_any { data := #[45, 49, 50] } (-20) 20 w (by decide)).mono fun _ _ ⟨he, hw⟩ => ⟨he.trans (by
    show two (readV [45, 49, 50] (-20) 20) (readE [45, 49, 50] (-20) 20) = _
    rw [show readV [45, 49, 50] (-20) 20 = -12 by decide +kernel, show readE [45, 49, 50] (-20) 20 = 0 by decide +kernel]; rfl), hw⟩
theorem read_007 (w : World) : Calls Tryd.prog 16 #[.string { data := #[48, 48, 55] }, .int .i64 0, .int .i64 9] w fun e w' => e = .returned (.tuple #[.int .i64 0, .int .i64 11]) ∧ Below w.heap.size w w' :=
  (read_any { data := #[48, 48, 55] } 0 9 w (by decide)).mono fun _ _ ⟨he, hw⟩ => ⟨he.trans (by
    show two (readV [48, 48, 55] 0 9) (readE [48, 48, 55] 0 9) = _
    rw [show readV [48, 48, 55] 0 9 = 0 by decide +kernel, show readE [48, 48, 55] 0 9 = 11 by decide +kernel]; rfl), hw⟩
theorem print_7 (w : World) (ht : Tab w) : Calls Tryd.prog 18 #[.int .i64 (-7)] w fun e w' => e = .returned (.string { data := #[45, 55] }) ∧ Below w.heap.size w w' :=
  (print_any (-7) w (by omega) (by omega) ht).mono fun _ _ ⟨he, hw⟩ => ⟨he.trans (by
    rw [show itoa (-7) = [45, 55] by decide +kernel]; rfl), hw⟩

theorem alive_any (w : World) (ht : Tab w) : Calls Tryd.prog 7 #[] w fun e w' => e = .returned (.bool true) ∧ Below w.heap.size w w' := by
  go_enter Tryd.func7, Tryd.ntmps7
  go_wp2_with (first
    | (go_at_call 8; refine (add_over _).mono ?_; rintro e w' ⟨rfl, rfl⟩)
    | (go_at_call 18; refine (print_7 _ (tab_below ht (hb1.trans (hb2.mono hb1.size)) rfl)).mono ?_; rintro e w3 ⟨rfl, hb3⟩)
    | (go_at_call 16; (first | ((with_reducible refine (read_12 _).mono ?_); rintro e w1 ⟨rfl, hb1⟩) | ((with_reducible refine (read_007 _).mono ?_); rintro e w2 ⟨rfl, hb2⟩))))
  go_ret
  exact ⟨rfl, (hb1.trans (hb2.mono hb1.size)).trans (hb3.mono (hb1.trans (hb2.mono hb1.size)).size)⟩
end Go.Proofs.YtjjakamepjgheaaDoor
