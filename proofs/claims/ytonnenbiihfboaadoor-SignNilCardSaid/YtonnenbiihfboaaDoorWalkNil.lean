/-
  The walk of the law on no register.
-/
import Derived.Test.YtonnenbiihfboaaDoorAlive
set_option linter.unusedSimpArgs false
set_option linter.unusedVariables false
namespace Go.Proofs.YtonnenbiihfboaaDoor
open Go.RowKit Go.Maps Go.Lib

set_option maxHeartbeats 2000000 in
set_option maxRecDepth 100000 in
theorem nil_walk (x : Shr) (n : Nat) (least : Int) (w : World) (hT : Tab w) :
    Calls Tryd.prog 5 #[.agg (shrC x), .int .u32 n, .int .i64 least] w (alivePost w) := by
  have hb0 : Below w.heap.size w (w.alloc (.cells (shrC x) 37)) := (Below.refl _ _).alloc (Nat.le_refl _) _
  have hal := alive_any _ (hT.kept hb0)
  have hX : ∀ W, Below (w.alloc (.cells (shrC x) 37)).heap.size (w.alloc (.cells (shrC x) 37)) W → Blk W w.heap.size 37 (shrC x) := fun W h => (Blk.new _ _ _).below h (by simp)
  have HX := Lib.hid hX
  have HA := Lib.hid hal
  clear hX hal hT
  go_enter Tryd.func5, Tryd.ntmps5
  go_wp2_with (first
    | (go_at_call 6; refine HA.out.mono ?_; unfold alivePost; rintro e w1 ⟨rfl, hb1⟩)
    | (refine wpList_row_at rfl _ _ rfl w.heap.size rfl _ (shrC x) _ _ (HX.out _ hb1) Tryd.underlying37 rfl (by kernel_rfl) ?_)
    | (refine wpList_row_at rfl _ _ rfl w.heap.size rfl _ (shrC x) _ _ (HX.out _ hb2) Tryd.underlying37 rfl (by kernel_rfl) ?_)
    | (refine wpList_cells_at rfl _ _ rfl ⟨w.heap.size, 1, none⟩ rfl (stmL x.s) _ (stm_in (HX.out _ hb3)) Tryd.underlying33 rfl (by kernel_rfl) ?_)
    | (refine wpList_cells_at rfl _ _ rfl ⟨w.heap.size, 1, none⟩ rfl (stmL x.s) _ (stm_in (HX.out _ hb4)) Tryd.underlying33 rfl (by kernel_rfl) ?_)
    | (go_at_call 9; refine (issue_nil x _).mono ?_; rintro e w2 ⟨rfl, hb2'⟩; have hb2 := nxt hb1 hb2' hb1.size)
    | (go_at_call 11; refine (counts_nil x _).mono ?_; rintro e w3 ⟨rfl, hb3'⟩; have hb3 := nxt hb2 hb3' hb2.size)
    | (go_at_call 13; refine (all_nil x.s n _).mono ?_; rintro e w4 ⟨rfl, hb4'⟩; have hb4 := nxt hb3 hb4' hb3.size)
    | (go_at_call 15; refine (enough_nil x.s n least _).mono ?_; rintro e w5 ⟨rfl, hb5'⟩; have hb5 := nxt hb4 hb5' hb4.size)
    | (go_at_call 16; refine (shares_nil _).mono ?_; rintro e w6 ⟨rfl, rfl⟩)
    | (go_at_call 17; refine (f_nil _).mono ?_; rintro e w6 ⟨rfl, rfl⟩)
    | (go_at_call 18; refine (bad_nil _).mono ?_; rintro e w6 ⟨rfl, rfl⟩))
  go_ret
  exact ⟨rfl, hb0.trans (hb5.mono hb0.size)⟩
end Go.Proofs.YtonnenbiihfboaaDoor
