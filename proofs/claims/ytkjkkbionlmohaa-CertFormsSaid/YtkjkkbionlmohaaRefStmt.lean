/-
  What was signed, by the document's answer: the same.
-/
import Derived.Test.YtkjkkbionlmohaaStmtC
set_option linter.unusedSimpArgs false
set_option linter.unusedVariables false
namespace Go.Proofs.Ytkjkkbionlmohaa
open Go.RowKit Go.Lib

/-- The argument's box, the answer's, and the one that is filled. -/
def TriAt (w : World) (g : Nat) (c : Crt) (s : Stm) (W : World) : Prop :=
  L3.Blk W w.heap.size 24 (crtC c) ∧ L3.Blk W (w.heap.size + 1) 31 (stmC zeroM) ∧ L3.Blk W g 31 (stmC s) ∧ Below w.heap.size w W ∧ w.heap.size + 1 < g
theorem tri_mk {w w0 : World} {c : Crt} (h : TwoAt w c zeroM w0) (s : Stm) : TriAt w w0.heap.size c s (w0.alloc (.cells (stmC s) 31)) :=
  ⟨h.1.alloc _, h.2.1.alloc _, L3.Blk.new _ _ _, h.2.2.alloc h.2.2.size _, h.2.1.lt⟩
theorem TriAt.set_ {w W : World} {g : Nat} {c : Crt} {s : Stm} (h : TriAt w g c s W) (i : Nat) (u : Value) (s' : Stm) (he : (stmC s).setIfInBounds i u = stmC s') : TriAt w g c s' (W.setCell ⟨g, i, none⟩ u) := by
  have hg := h.2.2.2.2
  refine ⟨h.1.far (by show w.heap.size ≠ g; omega) u, h.2.1.far (by show w.heap.size + 1 ≠ g; omega) u, ?_, h.2.2.2.1.setCell (p := ⟨g, i, none⟩) (by show w.heap.size ≤ g; omega) u, hg⟩
  rw [← he]
  exact h.2.2.1.set_ i u
set_option maxHeartbeats 2000000 in
set_option maxRecDepth 100000 in
theorem refstmt_any (c : Crt) (w : World) : Calls Try.prog 9 #[.agg (crtC c)] w (gives (.agg (stmC (stmV c))) w) := by
  have h2 := Lib.hid (two_mk w c)
  by_cases h1 : c.kind = 1
  · have e : stmV c = ⟨2, c.block, c.view, c.round, 0, 0, 0, 0, 0, 0⟩ := by unfold stmV; rw [if_pos h1]
    rw [e]
    go_enter Try.func9, Try.ntmps9
    go_upto_region 1 with fail
    refine name_world (fun w0 hw0 => ?_)
    have hZ : TwoAt w c zeroM w0 := by rw [hw0]; exact h2.out
    clear hw0 h2 e
    obtain ⟨d0, d1, d2, d3, d4, d5, d6, d7⟩ := box_of hZ.1
    have hA := tri_mk hZ ⟨0, c.block, c.view, c.round, 0, 0, 0, 0, 0, 0⟩
    go_upto_region 2 with (first
      | (refine wpList_build rfl _ _ rfl #[(1, .int .i64 c.block), (2, .int .i64 c.view), (3, .int .i64 c.round)] rfl (build_refs _ _ _ _) ?_)
      | (refine wpList_store_new rfl _ _ _ rfl w0 (stmC ⟨0, c.block, c.view, c.round, 0, 0, 0, 0, 0, 0⟩) rfl rfl _ _ stmInfo rfl (stmC_ones _) ?_))
    refine name_world (fun w1 hw1 => ?_)
    obtain ⟨g, hg⟩ : ∃ g, g = w0.heap.size := ⟨_, rfl⟩
    rw [← hw1] at hA
    rw [← hg] at hA ⊢
    clear hw1 hg hZ d0 d1 d2 d3 d4 d5 d6 d7
    have hB := hA.set_ 0 (.int .i64 2) ⟨2, c.block, c.view, c.round, 0, 0, 0, 0, 0, 0⟩ rfl
    obtain ⟨c0, c1, c2, c3, c4, c5, c6, c7⟩ := box_of hA.1
    have f0 := hA.2.2.1.frozen 0
    have s0 := hA.2.2.1.cell 0
    rw [h1] at c0
    clear h1
    go_upto_region 5 with fail
    refine name_world (fun w2 hw2 => ?_)
    rw [← hw2] at hB
    clear hw2 hA f0 s0 c0 c1 c2 c3 c4 c5 c6 c7
    have z0 := hB.2.1
    go_wp2_with (first
      | (refine wpList_row_at rfl _ _ rfl g rfl _ _ _ _ hB.2.2.1 Try.underlying31 rfl stmInfo ?_)
      | (refine wpList_store_row rfl _ _ _ rfl (w.heap.size + 1) (stmC ⟨2, c.block, c.view, c.round, 0, 0, 0, 0, 0, 0⟩) rfl rfl _ _ z0 stmInfo rfl (stmC_ones _) ?_))
    (try simp only [Exit.inBlock, Exit.then])
    refine bodyPost_ret (v := .agg (stmC ⟨2, c.block, c.view, c.round, 0, 0, 0, 0, 0, 0⟩)) (results_row rfl _ _ (w.heap.size + 1) rfl _ _ _ _ (blk_setRow z0) Try.underlying31 rfl stmInfo) rfl ?_
    exact ⟨rfl, below_setRow hB.2.2.2.1 (by omega)⟩
  have h1' : (c.kind == 1) = false := by simpa using h1
  by_cases hk2 : c.kind = 2
  · have e : stmV c = ⟨4, c.block, c.view, c.round, c.height, c.author, 0, 0, 0, 0⟩ := by unfold stmV; rw [if_neg h1, if_pos hk2]
    rw [e]
    clear h1 h1'
    go_enter Try.func9, Try.ntmps9
    go_upto_region 1 with fail
    refine name_world (fun w0 hw0 => ?_)
    have hZ : TwoAt w c zeroM w0 := by rw [hw0]; exact h2.out
    clear hw0 h2 e
    obtain ⟨d0, d1, d2, d3, d4, d5, d6, d7⟩ := box_of hZ.1
    have hA := tri_mk hZ ⟨0, c.block, c.view, c.round, 0, 0, 0, 0, 0, 0⟩
    go_upto_region 2 with (first
      | (refine wpList_build rfl _ _ rfl #[(1, .int .i64 c.block), (2, .int .i64 c.view), (3, .int .i64 c.round)] rfl (build_refs _ _ _ _) ?_)
      | (refine wpList_store_new rfl _ _ _ rfl w0 (stmC ⟨0, c.block, c.view, c.round, 0, 0, 0, 0, 0, 0⟩) rfl rfl _ _ stmInfo rfl (stmC_ones _) ?_))
    refine name_world (fun w1 hw1 => ?_)
    obtain ⟨g, hg⟩ : ∃ g, g = w0.heap.size := ⟨_, rfl⟩
    rw [← hw1] at hA
    rw [← hg] at hA ⊢
    clear hw1 hg hZ d0 d1 d2 d3 d4 d5 d6 d7
    have hB := hA.set_ 0 (.int .i64 4) ⟨4, c.block, c.view, c.round, 0, 0, 0, 0, 0, 0⟩ rfl
    obtain ⟨c0, c1, c2, c3, c4, c5, c6, c7⟩ := box_of hA.1
    have f0 := hA.2.2.1.frozen 0
    have s0 := hA.2.2.1.cell 0
    rw [hk2] at c0
    clear hk2
    go_upto_region 8 with fail
    refine name_world (fun w2 hw2 => ?_)
    rw [← hw2] at hB
    clear hw2 hA f0 s0 c0 c1 c2 c3 c4 c5 c6 c7
    have hC := hB.set_ 4 (.int .i64 c.height) ⟨4, c.block, c.view, c.round, c.height, 0, 0, 0, 0, 0⟩ rfl
    obtain ⟨c0, c1, c2, c3, c4, c5, c6, c7⟩ := box_of hB.1
    have f0 := hB.2.2.1.frozen 4
    have s0 := hB.2.2.1.cell 4
    go_upto_region 9 with fail
    refine name_world (fun w3 hw3 => ?_)
    rw [← hw3] at hC
    clear hw3 hB f0 s0 c0 c1 c2 c3 c4 c5 c6 c7
    have hD := hC.set_ 5 (.int .i64 c.author) ⟨4, c.block, c.view, c.round, c.height, c.author, 0, 0, 0, 0⟩ rfl
    obtain ⟨c0, c1, c2, c3, c4, c5, c6, c7⟩ := box_of hC.1
    have f0 := hC.2.2.1.frozen 5
    have s0 := hC.2.2.1.cell 5
    go_upto_region 10 with fail
    refine name_world (fun w4 hw4 => ?_)
    rw [← hw4] at hD
    clear hw4 hC f0 s0 c0 c1 c2 c3 c4 c5 c6 c7
    have z0 := hD.2.1
    go_wp2_with (first
      | (refine wpList_row_at rfl _ _ rfl g rfl _ _ _ _ hD.2.2.1 Try.underlying31 rfl stmInfo ?_)
      | (refine wpList_store_row rfl _ _ _ rfl (w.heap.size + 1) (stmC ⟨4, c.block, c.view, c.round, c.height, c.author, 0, 0, 0, 0⟩) rfl rfl _ _ z0 stmInfo rfl (stmC_ones _) ?_))
    (try simp only [Exit.inBlock, Exit.then])
    refine bodyPost_ret (v := .agg (stmC ⟨4, c.block, c.view, c.round, c.height, c.author, 0, 0, 0, 0⟩)) (results_row rfl _ _ (w.heap.size + 1) rfl _ _ _ _ (blk_setRow z0) Try.underlying31 rfl stmInfo) rfl ?_
    exact ⟨rfl, below_setRow hD.2.2.2.1 (by omega)⟩
  have h2' : (c.kind == 2) = false := by simpa using hk2
  have e : stmV c = zeroM := by unfold stmV; rw [if_neg h1, if_neg hk2]
  rw [e]
  clear h1 hk2
  go_enter Try.func9, Try.ntmps9
  go_upto_region 1 with fail
  refine name_world (fun w0 hw0 => ?_)
  have hZ : TwoAt w c zeroM w0 := by rw [hw0]; exact h2.out
  clear hw0 h2 e
  obtain ⟨d0, d1, d2, d3, d4, d5, d6, d7⟩ := box_of hZ.1
  have hA := tri_mk hZ ⟨0, c.block, c.view, c.round, 0, 0, 0, 0, 0, 0⟩
  go_upto_region 2 with (first
    | (refine wpList_build rfl _ _ rfl #[(1, .int .i64 c.block), (2, .int .i64 c.view), (3, .int .i64 c.round)] rfl (build_refs _ _ _ _) ?_)
    | (refine wpList_store_new rfl _ _ _ rfl w0 (stmC ⟨0, c.block, c.view, c.round, 0, 0, 0, 0, 0, 0⟩) rfl rfl _ _ stmInfo rfl (stmC_ones _) ?_))
  refine name_world (fun w1 hw1 => ?_)
  obtain ⟨g, hg⟩ : ∃ g, g = w0.heap.size := ⟨_, rfl⟩
  rw [← hw1] at hA
  rw [← hg] at hA ⊢
  clear hw1 hg hZ d0 d1 d2 d3 d4 d5 d6 d7
  obtain ⟨c0, c1, c2, c3, c4, c5, c6, c7⟩ := box_of hA.1
  have z0 := hA.2.1
  go_wp2_with (first
    | (refine wpList_build rfl _ _ rfl #[] rfl (build_stm0 _) ?_)
    | (refine wpList_store_row rfl _ _ _ rfl (w.heap.size + 1) (stmC zeroM) rfl rfl _ _ z0 stmInfo rfl (stmC_ones _) ?_))
  (try simp only [Exit.inBlock, Exit.then])
  refine bodyPost_ret (v := .agg (stmC zeroM)) (results_row rfl _ _ (w.heap.size + 1) rfl _ _ _ _ (blk_setRow z0) Try.underlying31 rfl stmInfo) rfl ?_
  exact ⟨rfl, below_setRow hA.2.2.2.1 (by omega)⟩
end Go.Proofs.Ytkjkkbionlmohaa
