/-
  A tree's small calls: what they tell and leave.
-/
import Derived.Test.YtgclofemhhhepaaRd
import Derived.Deep.RegionHeld3
import Derived.Deep.QuietTactic
import Derived.Deep.DeepCutAuto
import Derived.BigQuiet
import Derived.WalkSpells
import Derived.Outline
set_option linter.unusedSimpArgs false
set_option linter.unusedVariables false
set_option maxRecDepth 10000
namespace Go.Proofs.Ytgclofemhhhepaa
open Go.RowKit Go.Maps Go.Lib
open L3 (Blk Reads)
open L6 (Turn moreB fresh From In)

/-! A block of its own -/
theorem cloneP_nil (w : World) : Calls Try.prog 38 #[.slice none 0 0] w fun e w' => e = .returned (.slice none 0 0) ∧ w = w' := by
  have hq := fun W => Lib.run_eql_slice_nil (P := Try.prog) W 36 89 none 0 0 0 0 Try.underlying36
  go_enter Try.func38, Try.ntmps38
  go_wp2
  go_ret
  exact ⟨rfl, rfl⟩
theorem cloneT_nil (w : World) : Calls Try.prog 39 #[.slice none 0 0] w fun e w' => e = .returned (.slice none 0 0) ∧ w = w' := by
  have hq := fun W => Lib.run_eql_slice_nil (P := Try.prog) W 37 92 none 0 0 0 0 Try.underlying37
  go_enter Try.func39, Try.ntmps39
  go_wp2
  go_ret
  exact ⟨rfl, rfl⟩
theorem box_new (w : World) (ty : TypeId) (b : Bl) : Blk (w.alloc (.cells (blC b) ty)) w.heap.size ty (blC b) := Blk.new _ _ _
theorem below_box {w : World} (ty : TypeId) (b : Bl) : Below w.heap.size w (w.alloc (.cells (blC b) ty)) := (Below.refl _ _).alloc (Nat.le_refl _) _
/-- What holds of the world while a block is copied. -/
def OwnAt (w : World) (b : Bl) (W : World) : Prop :=
  Blk W w.heap.size 39 (blC b) ∧ Blk W (w.heap.size + 1) 39 (blC zeroBl) ∧ Below w.heap.size w W
theorem OwnAt.set_ {w W : World} {b : Bl} (h : OwnAt w b W) (i : Nat) (u : Value) (he : (blC b).setIfInBounds i u = blC b) : OwnAt w b (W.setCell ⟨w.heap.size, i, none⟩ u) := by
  refine ⟨?_, h.2.1.far (by simp) u, h.2.2.setCell (p := ⟨w.heap.size, i, none⟩) (Nat.le_refl _) u⟩
  have := h.1.set_ i u
  rw [he] at this
  exact this
theorem OwnAt.drew {w W : World} {b : Bl} (h : OwnAt w b W) : OwnAt w b W.drew := ⟨h.1.drew, h.2.1.drew, h.2.2.drew⟩
theorem OwnAt.two {w W : World} {b : Bl} (h : OwnAt w b W) : W.cell? ⟨w.heap.size, 12, none⟩ = some (.slice none 0 0) ∧ W.cell? ⟨w.heap.size, 13, none⟩ = some (.slice none 0 0) := ⟨h.1.cell 12, h.1.cell 13⟩
set_option maxHeartbeats 4000000 in
set_option maxRecDepth 100000 in
theorem own_any (b : Bl) (w : World) : Calls Try.prog 26 #[.agg (blC b)] w (gives (.agg (blC b)) w) := by
  have hc1 := fun W => cloneP_nil W
  have hc2 := fun W => cloneT_nil W
  go_enter Try.func26, Try.ntmps26
  go_upto_region 1 with fail
  refine name_world (fun w1 hw1 => ?_)
  have hA : OwnAt w b w1 := by
    rw [hw1]
    have e1 : (w.alloc (.cells (blC b) 39)).heap.size = w.heap.size + 1 := by simp
    have hb1 : Below w.heap.size w (w.alloc (.cells (blC b) 39)) := below_box _ b
    refine ⟨(box_new w _ b).alloc _, ?_, hb1.alloc hb1.size _⟩
    have := box_new (w.alloc (.cells (blC b) 39)) 39 zeroBl
    rw [e1] at this
    exact this
  clear hw1
  have c1 : w1.cell? ⟨w.heap.size, 12, none⟩ = some (.slice none 0 0) := hA.1.cell 12
  have c2 : w1.cell? ⟨w.heap.size, 13, none⟩ = some (.slice none 0 0) := hA.1.cell 13
  have f1 := hA.1.frozen 12
  have f2 := hA.1.frozen 13
  have hAd := hA.drew
  go_region_held3 (fun wx => wx.cell? ⟨w.heap.size, 12, none⟩ = some (.slice none 0 0) ∧ wx.cell? ⟨w.heap.size, 13, none⟩ = some (.slice none 0 0))
    (first | exact ⟨by assumption, by assumption⟩ | exact OwnAt.two (by assumption) | exact OwnAt.two (OwnAt.set_ (by assumption) 12 _ rfl) | exact OwnAt.two (OwnAt.set_ (by assumption) 13 _ rfl) | exact OwnAt.two (OwnAt.set_ (OwnAt.set_ (by assumption) 12 _ rfl) 13 _ rfl))
    (first
      | (go_at_call 38; (with_reducible refine (hc1 _).mono ?_); rintro e w2 ⟨rfl, rfl⟩)
      | (go_at_call 39; (with_reducible refine (hc2 _).mono ?_); rintro e w3 ⟨rfl, rfl⟩))
  have hB : OwnAt w b ((w1.setCell ⟨w.heap.size, 12, none⟩ (.slice none 0 0)).setCell ⟨w.heap.size, 13, none⟩ (.slice none 0 0)).drew := ((hA.set_ 12 (.slice none 0 0) rfl).set_ 13 (.slice none 0 0) rfl).drew
  clear hA hAd c1 c2 f1 f2
  go_upto_region 2 with fail
  refine name_world (fun w4 hw4 => ?_)
  rw [← hw4] at hB
  clear hw4
  have c3 : w4.cell? ⟨w.heap.size, 13, none⟩ = some (.slice none 0 0) := hB.1.cell 13
  go_wp2
  go_loopw [16] (fun i wr => i = .int .i64 0 ∧ OwnAt w b wr) (fun _ _ => 0)
  case atStart => exact ⟨rfl, hB⟩
  case round =>
    clear c3
    obtain ⟨rfl, hF⟩ := hrel
    go_wp2_with (first
      | (refine wpList_row_at rfl _ _ rfl w.heap.size rfl _ _ _ _ hF.1 Try.underlying39 rfl (by kernel_rfl) ?_)
      | (refine wpList_store_row rfl _ _ _ rfl (w.heap.size + 1) (blC b) rfl rfl _ _ hF.2.1 (by kernel_rfl) rfl (blC_ones _) ?_))
    (try simp only [Exit.inBlock, Exit.then])
    refine bodyPost_ret (v := .agg (blC b)) (results_row rfl _ _ (w.heap.size + 1) rfl _ _ _ _ (blk_setRow hF.2.1) Try.underlying39 rfl (by kernel_rfl)) rfl ?_
    exact ⟨rfl, below_setRow hF.2.2 (Nat.le_succ _)⟩
end Go.Proofs.Ytgclofemhhhepaa
