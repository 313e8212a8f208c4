/-
  Which blocks may be, by the code: their parent, their proof, all of it.
-/
import Derived.Test.YtomaaidhmccngaaGreatDoorB1
import Derived.Test.YtomaaidhmccngaaGreatDoorTxsB
set_option linter.unusedSimpArgs false
set_option linter.unusedVariables false
set_option maxRecDepth 10000
namespace Go.Proofs.YtomaaidhmccngaaGreatDoor
open Go.RowKit Go.Maps Go.Lib
open L3 (Blk Reads)
open L11 (Crt zeroC crtL crtC mayV okW crtInfo crtC_ones endV)

theorem deq {x y : Int} {b : Bool} (h : decide (x = y) = b) : (x == y) = b := by rw [← h]; rfl
theorem dne {x y : Int} {b : Bool} (h : decide (x = y) = b) : (x != y) = !b := by rw [← h]; rfl
/-- A block's box and its parent's. -/
structure FolAt (w : World) (b : Blo) (P T : Value) (W : World) : Prop where
  bb : Blk W w.heap.size 57 (bloC b P T)
  bp : Blk W (w.heap.size + 1) 29 (crtC b.par)
  bw : Below w.heap.size w W
theorem FolAt.below {w W W' : World} {b : Blo} {P T : Value} (h : FolAt w b P T W) (hb : Below W.heap.size W W') : FolAt w b P T W' := ⟨h.bb.below hb h.bb.lt, h.bp.below hb h.bp.lt, nxt h.bw hb⟩
theorem FolAt.cells {w W : World} {b : Blo} {P T : Value} (h : FolAt w b P T W) : W.cell? ⟨w.heap.size, 0, none⟩ = some (.int .i64 b.view) ∧ W.cell? ⟨w.heap.size, 2, none⟩ = some (.int .i64 b.height) ∧ W.cell? ⟨w.heap.size, 3, none⟩ = some (.int .i64 b.author) ∧
    W.cell? ⟨w.heap.size + 1, 0, none⟩ = some (.int .i64 b.par.kind) ∧ W.cell? ⟨w.heap.size + 1, 2, none⟩ = some (.int .i64 b.par.view) ∧ W.cell? ⟨w.heap.size + 1, 4, none⟩ = some (.int .i64 b.par.height) ∧ W.cell? ⟨w.heap.size + 1, 5, none⟩ = some (.int .i64 b.par.author) :=
  ⟨h.bb.cell 0, h.bb.cell 2, h.bb.cell 3, h.bp.cell 0, h.bp.cell 2, h.bp.cell 4, h.bp.cell 5⟩
theorem fol_mk (w : World) (b : Blo) (P T : Value) : FolAt w b P T ((w.alloc (.cells (bloC b P T) 57)).alloc (.cells (crtC b.par) 29)) := by
  have hb : Below w.heap.size w (w.alloc (.cells (bloC b P T) 57)) := below_new _ _
  refine ⟨(blo_new w _ b P T).alloc _, ?_, hb.alloc hb.size _⟩
  have := L11.box_new (w.alloc (.cells (bloC b P T) 57)) 29 b.par
  simpa using this
theorem par_cells (w : World) (b : Blo) (P T : Value) : ∀ j u, (crtL b.par)[j]? = some u → (w.alloc (.cells (bloC b P T) 57)).cell? ((⟨w.heap.size, 4, none⟩ : Addr).add j) = some u := sub_cells (blo_new w _ b P T) (par_at b P T)
theorem six (a b c d e f : Bool) : a = false ∨ (a = true ∧ b = false) ∨ (a = true ∧ b = true ∧ c = false) ∨ (a = true ∧ b = true ∧ c = true ∧ d = false) ∨ (a = true ∧ b = true ∧ c = true ∧ d = true ∧ e = false) ∨ (a = true ∧ b = true ∧ c = true ∧ d = true ∧ e = true ∧ f = false) ∨ (a = true ∧ b = true ∧ c = true ∧ d = true ∧ e = true ∧ f = true) := by
  cases a <;> cases b <;> cases c <;> cases d <;> cases e <;> cases f <;> simp
set_option maxHeartbeats 4000000 in
set_option maxRecDepth 100000 in
theorem follows_any (b : Blo) (P T : Value) (w : World) (h : b.par.wf) (hh : 0 ≤ b.height ∧ b.height ≤ 3) : Calls Tryz.prog 171 #[.agg (bloC b P T)] w (gives (.bool (followsV b)) w) := by
  have F0 := Lib.hid (fol_mk w b P T)
  have hp := par_cells w b P T
  by_cases h1 : b.height ≤ 1
  · have e : followsV b = openV b.par b.view := by unfold followsV; rw [if_pos h1]
    rw [e]
    have hk := fun W => known_any b.par b.view W h
    have HK := Lib.hid hk
    clear e hk h hh
    go_enter Tryz.func171, Tryz.ntmps171
    go_upto_region 2 with (first
      | (refine wpList_cells_at rfl _ _ rfl ⟨w.heap.size, 4, none⟩ rfl (crtL b.par) _ hp Tryz.underlying29 rfl crtInfo ?_)
      | (refine wpList_store_last rfl _ _ _ rfl _ (w.heap.size + 1) (by simp) (crtC b.par) rfl rfl _ _ crtInfo rfl (crtC_ones _) ?_))
    refine name_world (fun w1 hw1 => ?_)
    have hA : FolAt w b P T w1 := by rw [hw1]; exact F0.out
    clear hw1 F0 hp
    obtain ⟨c0, c1, c2, c3, c4, c5, c6⟩ := hA.cells
    go_wp2_with (first
      | (refine wpList_row_at rfl _ _ rfl (w.heap.size + 1) rfl _ _ _ _ hA.bp Tryz.underlying29 rfl crtInfo ?_)
      | (go_at_call 128; refine (HK.out _).mono ?_; unfold gives; rintro e w2 ⟨rfl, hb2⟩))
    go_ret
    exact ⟨rfl, nxt hA.bw hb2⟩
  · have e : followsV b = (mayV b.par && decide (b.par.kind = 2) && decide (b.par.co = 0) && decide (b.par.view = b.view) && decide (b.par.author = b.author) && decide (b.par.height = b.height - 1)) := by unfold followsV; rw [if_neg h1]
    have hw64 : wrap64 (b.height - 1) = b.height - 1 := by unfold wrap64; omega
    have hc0 := fun W hm => c_check_no b.par W h hm
    have hc1 := fun W hm => c_check_ok b.par W h hm
    have hce := fun W hk => c_end b.par _ W (end_two hk)
    have HC := Lib.hid (And.intro hc0 (And.intro hc1 hce))
    clear hc0 hc1 hce h hh
    rcases six (mayV b.par) (decide (b.par.kind = 2)) (decide (b.par.co = 0)) (decide (b.par.view = b.view)) (decide (b.par.author = b.author)) (decide (b.par.height = b.height - 1)) with a1 | ⟨a1, a2⟩ | ⟨a1, a2, a3⟩ | ⟨a1, a2, a3, a4⟩ | ⟨a1, a2, a3, a4, a5⟩ | ⟨a1, a2, a3, a4, a5, a6⟩ | ⟨a1, a2, a3, a4, a5, a6⟩
    · have E : Hid (followsV b = false) := Lib.hid (by rw [e, a1]; rfl)
      have HM := Lib.hid (fun W => HC.out.1 W a1)
      clear e HC a1
      go_enter Tryz.func171, Tryz.ntmps171
      go_upto_region 2 with (first
        | (refine wpList_cells_at rfl _ _ rfl ⟨w.heap.size, 4, none⟩ rfl (crtL b.par) _ hp Tryz.underlying29 rfl crtInfo ?_)
        | (refine wpList_store_last rfl _ _ _ rfl _ (w.heap.size + 1) (by simp) (crtC b.par) rfl rfl _ _ crtInfo rfl (crtC_ones _) ?_))
      refine name_world (fun w1 hw1 => ?_)
      have hA : FolAt w b P T w1 := by rw [hw1]; exact F0.out
      clear hw1 F0 hp
      obtain ⟨c0, c1, c2, c3, c4, c5, c6⟩ := hA.cells
      go_wp2_with (first
        | (refine wpList_row_at rfl _ _ rfl (w.heap.size + 1) rfl _ _ _ _ hA.bp Tryz.underlying29 rfl crtInfo ?_)
        | (go_at_call 37; refine (HM.out _).mono ?_; unfold gives; rintro e w2 ⟨rfl, hb2⟩))
      go_ret
      exact ⟨by rw [E.out]; rfl, nxt hA.bw hb2⟩
    · have E : Hid (followsV b = false) := Lib.hid (by rw [e, a1, a2]; rfl)
      have q2 := deq a2
      have HM := Lib.hid (fun W => HC.out.2.1 W a1)
      clear e HC a1 a2
      go_enter Tryz.func171, Tryz.ntmps171
      go_upto_region 2 with (first
        | (refine wpList_cells_at rfl _ _ rfl ⟨w.heap.size, 4, none⟩ rfl (crtL b.par) _ hp Tryz.underlying29 rfl crtInfo ?_)
        | (refine wpList_store_last rfl _ _ _ rfl _ (w.heap.size + 1) (by simp) (crtC b.par) rfl rfl _ _ crtInfo rfl (crtC_ones _) ?_))
      refine name_world (fun w1 hw1 => ?_)
      have hA : FolAt w b P T w1 := by rw [hw1]; exact F0.out
      clear hw1 F0 hp
      obtain ⟨c0, c1, c2, c3, c4, c5, c6⟩ := hA.cells
      go_wp2_with (first
        | (refine wpList_row_at rfl _ _ rfl (w.heap.size + 1) rfl _ _ _ _ hA.bp Tryz.underlying29 rfl crtInfo ?_)
        | (go_at_call 37; refine (HM.out _).mono ?_; unfold gives; rintro e w2 ⟨rfl, hb2⟩; obtain ⟨d0, d1, d2, d3, d4, d5, d6⟩ := (hA.below hb2).cells))
      go_ret
      exact ⟨by rw [E.out]; rfl, nxt hA.bw hb2⟩
    all_goals
      have e2 : followsV b = (decide (b.par.co = 0) && decide (b.par.view = b.view) && decide (b.par.author = b.author) && decide (b.par.height = b.height - 1)) := by rw [e, a1, a2]; rfl
      have HM := Lib.hid (fun W => HC.out.2.1 W a1)
      have he := fun W => HC.out.2.2 W (of_decide_eq_true a2)
      have q2 := deq a2
      rw [a3] at he e2
      (try rw [a4] at e2)
      (try rw [a5] at e2)
      (try rw [a6] at e2)
      have HE := Lib.hid he
      have E := Lib.hid e2
      (try have q4 := deq a4)
      (try have q5 := deq a5)
      (try have q6 := deq a6)
      clear e HC a1 a2 e2 he
      go_enter Tryz.func171, Tryz.ntmps171
      go_upto_region 2 with (first
        | (refine wpList_cells_at rfl _ _ rfl ⟨w.heap.size, 4, none⟩ rfl (crtL b.par) _ hp Tryz.underlying29 rfl crtInfo ?_)
        | (refine wpList_store_last rfl _ _ _ rfl _ (w.heap.size + 1) (by simp) (crtC b.par) rfl rfl _ _ crtInfo rfl (crtC_ones _) ?_))
      refine name_world (fun w1 hw1 => ?_)
      have hA : FolAt w b P T w1 := by rw [hw1]; exact F0.out
      clear hw1 F0 hp
      obtain ⟨c0, c1, c2, c3, c4, c5, c6⟩ := hA.cells
      go_wp2_with (first
        | (go_at_call 37; refine (HM.out _).mono ?_; unfold gives; rintro e w2 ⟨rfl, hb2⟩; have hB := hA.below hb2; obtain ⟨d0, d1, d2, d3, d4, d5, d6⟩ := hB.cells)
        | (go_at_call 122; refine (HE.out _).mono ?_; unfold gives; rintro e w3 ⟨rfl, hb3⟩; have hD := hB.below hb3; obtain ⟨f0, f1, f2, f3, f4, f5, f6⟩ := hD.cells)
        | (refine wpList_row_at rfl _ _ rfl (w.heap.size + 1) rfl _ _ _ _ hB.bp Tryz.underlying29 rfl crtInfo ?_)
        | (refine wpList_row_at rfl _ _ rfl (w.heap.size + 1) rfl _ _ _ _ hA.bp Tryz.underlying29 rfl crtInfo ?_))
      go_ret
      refine ⟨?_, nxt (nxt hA.bw hb2) hb3⟩
      rw [E.out]
      first | rfl | simp [*]
theorem follows_is (b : Blo) (P T : Value) (r : Bool) (w : World) (h : b.par.wf) (hh : 0 ≤ b.height ∧ b.height ≤ 3) (hr : followsV b = r) : Calls Tryz.prog 171 #[.agg (bloC b P T)] w (gives (.bool r) w) := by
  have := follows_any b P T w h hh; rw [hr] at this; exact this
end Go.Proofs.YtomaaidhmccngaaGreatDoor
