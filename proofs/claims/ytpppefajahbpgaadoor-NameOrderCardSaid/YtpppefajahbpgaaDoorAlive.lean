/-
  The chapter's examples hold: contract of the laws' common check.
-/
import Derived.Test.YtpppefajahbpgaaDoorFold
set_option linter.unusedSimpArgs false
set_option linter.unusedVariables false
namespace Go.Proofs.YtpppefajahbpgaaDoor
open Go.RowKit Go.Lib

theorem fold_elan (w : World) : Calls Tryd.prog 11 #[.string { data := #[195, 137, 108, 97, 110] }] w fun e w' => e = .returned (.tuple #[.string { data := #[195, 169, 108, 97, 110] }, .int .i64 0]) ∧ Below w.heap.size w w' :=
  (fold_any { data := #[195, 137, 108, 97, 110] } w (by decide)).mono fun _ _ ⟨he, hw⟩ => ⟨he.trans (by
    show Ending.returned (.tuple #[.string (strOf (foldS [195, 137, 108, 97, 110])), .int .i64 (errOf (foldB [195, 137, 108, 97, 110]))]) = _
    rw [show foldS [195, 137, 108, 97, 110] = [195, 169, 108, 97, 110] by decide +kernel, show foldB [195, 137, 108, 97, 110] = true by decide +kernel]; rfl), hw⟩
theorem cut_aeb (w : World) : Calls Tryd.prog 16 #[.string { data := #[97, 195, 169, 98] }, .int .i64 2] w fun e w' => e = .returned (.tuple #[.string { data := #[97, 195, 169] }, .string { data := #[98] }]) ∧ Below w.heap.size w w' :=
  (cut_any { data := #[97, 195, 169, 98] } 2 w (by decide) (by omega) (by omega)).mono fun _ _ ⟨he, hw⟩ => ⟨he.trans (by
    show Ending.returned (.tuple #[.string (strOf (List.take (plc [97, 195, 169, 98] 2) [97, 195, 169, 98])), .string (strOf (List.drop (plc [97, 195, 169, 98] 2) [97, 195, 169, 98]))]) = _
    rw [show plc [97, 195, 169, 98] 2 = 3 by decide +kernel]; rfl), hw⟩
theorem check_9a (w : World) : Calls Tryd.prog 7 #[.string { data := #[57, 97] }] w fun e w' => e = .returned (.int .i64 20) ∧ Below w.heap.size w w' :=
  check_at [57, 97] w (by decide) (b := false) (by decide +kernel) rfl
theorem check_a9 (w : World) : Calls Tryd.prog 7 #[.string { data := #[95, 97, 45, 57] }] w fun e w' => e = .returned (.int .i64 0) ∧ Below w.heap.size w w' :=
  check_at [95, 97, 45, 57] w (by decide) (b := true) (by decide +kernel) rfl
theorem alive_any (w : World) : Calls Tryd.prog 6 #[] w fun e w' => e = .returned (.bool true) ∧ Below w.heap.size w w' := by
  go_enter Tryd.func6, Tryd.ntmps6
  go_wp2_with (first
    | (go_at_call 11; refine (fold_elan _).mono ?_; rintro e w1 ⟨rfl, hb1⟩)
    | (go_at_call 16; refine (cut_aeb _).mono ?_; rintro e w2 ⟨rfl, hb2⟩)
    | (go_at_call 7; (first | ((with_reducible refine (check_9a _).mono ?_); rintro e w3 ⟨rfl, hb3⟩) | ((with_reducible refine (check_a9 _).mono ?_); rintro e w4 ⟨rfl, hb4⟩))))
  go_ret
  exact ⟨rfl, nxt (nxt (nxt hb1 hb2 hb1.size) hb3 (nxt hb1 hb2 hb1.size).size) hb4 (nxt (nxt hb1 hb2 hb1.size) hb3 (nxt hb1 hb2 hb1.size).size).size⟩
end Go.Proofs.YtpppefajahbpgaaDoor
