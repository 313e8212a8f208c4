/-
  A transaction with texts of its own, by the code: the same.
-/
import Derived.Test.YtfoabgjcndgflaaDoorSaidT
set_option linter.unusedSimpArgs false
set_option linter.unusedVariables false
namespace Go.Proofs.YtfoabgjcndgflaaDoor
open Go.RowKit Go.Lib

/-- What holds of the world while texts are copied. -/
def OwnAt (w : World) (t : Txx) (W : World) : Prop :=
  L3.Blk W w.heap.size 23 (txC t) ∧ L3.Blk W (w.heap.size + 1) 23 (txC zeroX) ∧ Below w.heap.size w W
theorem OwnAt.below {w W W' : World} {t : Txx} (h : OwnAt w t W) (hb : Below W.heap.size W W') : OwnAt w t W' := ⟨h.1.below hb h.1.lt, h.2.1.below hb h.2.1.lt, nxt h.2.2 hb⟩
theorem OwnAt.set_ {w W : World} {t : Txx} (h : OwnAt w t W) (i : Nat) (u : Value) (he : (txC t).setIfInBounds i u = txC t) : OwnAt w t (W.setCell ⟨w.heap.size, i, none⟩ u) := by
  refine ⟨?_, h.2.1.far (by simp) u, h.2.2.setCell (p := ⟨w.heap.size, i, none⟩) (Nat.le_refl _) u⟩
  have := h.1.set_ i u
  rw [he] at this
  exact this
theorem OwnAt.drew {w W : World} {t : Txx} (h : OwnAt w t W) : OwnAt w t W.drew := ⟨h.1.drew, h.2.1.drew, h.2.2.drew⟩
/-- Two cells of a transaction's block. -/
theorem OwnAt.two {w W : World} {t : Txx} (h : OwnAt w t W) : W.cell? ⟨w.heap.size, 1, none⟩ = some (.string (str t.frm)) ∧ W.cell? ⟨w.heap.size, 2, none⟩ = some (.string (str t.to)) := ⟨h.1.cell 1, h.1.cell 2⟩
theorem OwnAt.more {w W : World} {t : Txx} (h : OwnAt w t W) : W.cell? ⟨w.heap.size, 3, none⟩ = some (.string (str t.key)) ∧ W.cell? ⟨w.heap.size, 4, none⟩ = some (.string (str t.val)) := ⟨h.1.cell 3, h.1.cell 4⟩
set_option maxHeartbeats 4000000 in
set_option maxRecDepth 100000 in
theorem own_any (t : Txx) (w : World) (h : t.wf 1000000) : Calls Tryd.prog 34 #[.agg (txC t)] w (gives (.agg (txC t)) w) := by
  obtain ⟨_, h1, h2, h3, h4, _, _⟩ := h
  have hc1 := fun W => c_clone t.frm W h1
  have hc2 := fun W => c_clone t.to W h2
  have hc3 := fun W => c_clone t.key W h3
  have hc4 := fun W => c_clone t.val W h4
  have HH := Lib.hid (And.intro hc1 (And.intro hc2 (And.intro hc3 hc4)))
  clear hc1 hc2 hc3 hc4 h1 h2 h3 h4
  go_enter Tryd.func34, Tryd.ntmps34
  go_upto_region 1 with fail
  refine name_world (fun w1 hw1 => ?_)
  have hA : OwnAt w t w1 := by
    rw [hw1]
    have e1 : (w.alloc (.cells (txC t) 23)).heap.size = w.heap.size + 1 := by simp
    have hb1 : Below w.heap.size w (w.alloc (.cells (txC t) 23)) := below_box _ t
    refine ⟨(box_new w _ t).alloc _, ?_, hb1.alloc hb1.size _⟩
    have := box_new (w.alloc (.cells (txC t) 23)) 23 zeroX
    rw [e1] at this
    exact this
  clear hw1
  have c1 : w1.cell? ⟨w.heap.size, 1, none⟩ = some (.string (str t.frm)) := hA.1.cell 1
  have c2 : w1.cell? ⟨w.heap.size, 2, none⟩ = some (.string (str t.to)) := hA.1.cell 2
  have hAd := hA.drew
  go_region_held3 (fun wx => wx.cell? ⟨w.heap.size, 1, none⟩ = some (.string (str t.frm)) ∧ wx.cell? ⟨w.heap.size, 2, none⟩ = some (.string (str t.to)))
    (first | exact ⟨by assumption, by assumption⟩ | exact OwnAt.two (by assumption) | exact OwnAt.two (OwnAt.set_ (by assumption) 1 _ rfl) | exact OwnAt.two (OwnAt.set_ (OwnAt.set_ (by assumption) 1 _ rfl) 2 _ rfl))
    (first
      | (go_at_call 52; (with_reducible refine (HH.out.1 _).mono ?_); unfold gives; rintro e w2 ⟨rfl, hb2⟩; have hA2 := hAd.below hb2; have f1 := hA2.1.frozen 1; have f2 := hA2.1.frozen 2; have b1 := hA2.two.1; have b2 := hA2.two.2)
      | (go_at_call 52; (with_reducible refine (HH.out.2.1 _).mono ?_); unfold gives; rintro e w3 ⟨rfl, hb3⟩; have hA3 := hA2.below hb3; have g1 := hA3.1.frozen 1; have g2 := hA3.1.frozen 2; have d1 := hA3.two.1; have d2 := hA3.two.2))
  have hB : OwnAt w t ((w3.setCell ⟨w.heap.size, 1, none⟩ (.string (str t.frm))).setCell ⟨w.heap.size, 2, none⟩ (.string (str t.to))) := (hA3.set_ 1 _ rfl).set_ 2 _ rfl
  clear hA hAd c1 c2 hA2 hA3 f1 f2 b1 b2 g1 g2 d1 d2 hb2 hb3
  go_upto_region 2 with fail
  refine name_world (fun w4 hw4 => ?_)
  rw [← hw4] at hB
  clear hw4
  have c3 : w4.cell? ⟨w.heap.size, 3, none⟩ = some (.string (str t.key)) := hB.1.cell 3
  have c4 : w4.cell? ⟨w.heap.size, 4, none⟩ = some (.string (str t.val)) := hB.1.cell 4
  have hBd := hB.drew
  go_region_held3 (fun wx => wx.cell? ⟨w.heap.size, 3, none⟩ = some (.string (str t.key)) ∧ wx.cell? ⟨w.heap.size, 4, none⟩ = some (.string (str t.val)))
    (first | exact ⟨by assumption, by assumption⟩ | exact OwnAt.more (by assumption) | exact OwnAt.more (OwnAt.set_ (by assumption) 3 _ rfl) | exact OwnAt.more (OwnAt.set_ (OwnAt.set_ (by assumption) 3 _ rfl) 4 _ rfl))
    (first
      | (go_at_call 52; (with_reducible refine (HH.out.2.2.1 _).mono ?_); unfold gives; rintro e w5 ⟨rfl, hb5⟩; have hA5 := hBd.below hb5; have f3 := hA5.1.frozen 3; have f4 := hA5.1.frozen 4; have b3 := hA5.more.1; have b4 := hA5.more.2)
      | (go_at_call 52; (with_reducible refine (HH.out.2.2.2 _).mono ?_); unfold gives; rintro e w6 ⟨rfl, hb6⟩; have hA6 := hA5.below hb6; have g3 := hA6.1.frozen 3; have g4 := hA6.1.frozen 4; have d3 := hA6.more.1; have d4 := hA6.more.2))
  have hF := (hA6.set_ 3 (.string (str t.key)) rfl).set_ 4 (.string (str t.val)) rfl
  clear hB hBd c3 c4 hA5 hA6 f3 f4 b3 b4 g3 g4 d3 d4 hb5 hb6
  go_wp2_with (first
    | (refine wpList_row_at rfl _ _ rfl w.heap.size rfl _ _ _ _ hF.1 Tryd.underlying23 rfl (by kernel_rfl) ?_)
    | (refine wpList_store_row rfl _ _ _ rfl (w.heap.size + 1) (txC t) rfl rfl _ _ hF.2.1 (by kernel_rfl) rfl (txC_ones _) ?_))
  (try simp only [Exit.inBlock, Exit.then])
  refine bodyPost_ret (v := .agg (txC t)) (results_row rfl _ _ (w.heap.size + 1) rfl _ _ _ _ (blk_setRow hF.2.1) Tryd.underlying23 rfl (by kernel_rfl)) rfl ?_
  exact ⟨rfl, below_setRow hF.2.2 (Nat.le_succ _)⟩
end Go.Proofs.YtfoabgjcndgflaaDoor
