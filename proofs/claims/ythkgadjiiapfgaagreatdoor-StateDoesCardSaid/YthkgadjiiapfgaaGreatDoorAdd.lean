/-
  What is added to somebody's account, and set at somebody's key.
-/
import Derived.Test.YthkgadjiiapfgaaGreatDoorSt
set_option linter.unusedSimpArgs false
set_option linter.unusedVariables false
set_option maxRecDepth 10000
namespace Go.Proofs.YthkgadjiiapfgaaGreatDoor
open Go.RowKit Go.Maps Go.Lib
open L3 (Blk)
open L6 (Turn moreB fresh From In)

/-- What the reads meet. -/
def holdA (g ba : Nat) (m : Nat) (i j : Int) (W : World) : Prop := W.cell? ⟨g, 0, none⟩ = some (.map (some ba)) ∧ Blk W m 57 #[.int .i64 i, .int .i64 j]
section
variable {S : Nat → Prop} {g n : Nat} {f : FA} {v : FV} {w : World}
set_option maxHeartbeats 1000000 in
set_option maxRecDepth 100000 in
theorem add_any (h : St w S g f v n) (l : List UInt8) (am no : Int) (hl : l.length ≤ 1000000) (hn : n < maxLen) (ha : wrap64 (amt f l + am) = amt f l + am) (hb : wrap64 (nnc f l + no) = nnc f l + no) :
    Calls Tryz.prog 27 #[.pointer (some ⟨g, 0, none⟩), .string (str l), .int .i64 am, .int .i64 no] w fun e w' => e = .returned (.tuple #[]) ∧ St w' (moreB S w w') g (putF f l (amt f l + am, nnc f l + no)) v (n + 1) ∧ Turn S w w' := by
  obtain ⟨ba, bv, DA, DV, hblk, hA, hV, h1, h2, h3, h4, h5, h6⟩ := h
  have hlm : l.length ≤ maxLen := by unfold maxLen; omega
  have c0 := hblk.cell 0
  have hat := h1.acc hlm
  obtain ⟨i, hi⟩ : ∃ i, i = amt f l := ⟨_, rfl⟩
  obtain ⟨j, hj⟩ : ∃ j, j = nnc f l := ⟨_, rfl⟩
  rw [← hi, ← hj] at hat
  rw [← hi] at ha ⊢
  rw [← hj] at hb ⊢
  have hcl := fun w => c_clone l w hl
  obtain ⟨i2, hi2⟩ : ∃ i2, i2 = i + am := ⟨_, rfl⟩
  obtain ⟨j2, hj2⟩ : ∃ j2, j2 = j + no := ⟨_, rfl⟩
  rw [← hi2] at ⊢
  rw [← hj2] at ⊢
  replace ha : wrap64 (i + am) = i2 := by rw [ha, hi2]
  replace hb : wrap64 (j + no) = j2 := by rw [hb, hj2]
  clear hi hj hi2 hj2
  go_enter Tryz.func27, Tryz.ntmps27
  go_wp2_with (first
    | (at_lookup; refine wpList_look_acc _ rfl _ _ rfl ba n DA rfl hA l rfl hlm i j hat ?_)
    | go_in)
  go_outline
  have hbn : Blk (w.alloc (.cells #[.int .i64 i2, .int .i64 j2] 57)) w.heap.size 57 #[.int .i64 i2, .int .i64 j2] := Blk.new _ _ _
  rw [ha, hb]
  have hS : holdA g ba w.heap.size i2 j2 (w.alloc (.cells #[.int .i64 i2, .int .i64 j2] 57)).drew := ⟨(hblk.alloc _).cell 0, hbn⟩
  refine wp_region_K (holdA g ba w.heap.size i2 j2) [0, 1, 2, 3, 4, 6] (by kernel_rfl) ?_
  refine wpK_quiet (f := 2) (by kernel_rfl) (fun _ x _ _ _ h => by cases x <;> exact h) hS [0, 1, 2, 3, 4, 6] _ _ (by kernel_rfl) (by kernel_rfl) (by kernel_rfl) ?_
  · have ne : Nonempty (WorldIn (holdA g ba w.heap.size i2 j2)) := ⟨⟨_, hS⟩⟩
    have q0 := fun y : WorldIn (holdA g ba w.heap.size i2 j2) => y.h.1
    conv => arg 5; simp [pick]
    iterate 5 go_big_quiet_step (fail)
    refine wpQuiet_row rfl _ _ rfl w.heap.size rfl _ _ _ _ (fun y => y.h.2) Tryz.underlying57 rfl (by kernel_rfl) ?_
    conv => arg 6; simp only [Act.put, List.setIfInBounds_toArray, List.set_cons_zero, List.set_cons_succ]
    refine wpQuiet_nil ?_
    refine wpK_step 5 (by kernel_rfl) rfl ?_
    go_wp2_with (go_at_call 52; refine (hcl _).mono ?_; rintro e w1 ⟨rfl, hb1⟩)
    have hb2 : Below w.heap.size w w1 := L6.nxt ((Below.refl _ w).alloc (Nat.le_refl _) (.cells #[.int .i64 i2, .int .i64 j2] 57)) (L6.undrew hb1) (by simp)
    have hk1 : holdA g ba w.heap.size i2 j2 w1 := ⟨(hb1.cell (p := ⟨g, 0, none⟩) (L2.cell_in hS.1)).trans hS.1, (show Blk _ _ _ _ from hS.2).below hb1 (by simp)⟩
    refine stepQ.mk ⟨fun _ => hk1, ?_⟩
    have hm1 : w1.ownsMap Tryz.prog 9 accElem ba n DA := L6.Turn.map (S := fun _ => False) (L6.Turn.of_keep hb2) hA (fun h => h)
    refine wpK_seq [7] _ _ _ (by kernel_rfl) ?_
    conv => arg 4; simp [pick]
    go_wp2_with (at_mapUpdate
                 refine wpList_mapUpdate_own _ rfl _ _ _ 49 rfl 9 57 kdN Tryz.underlying49 _ ba n DA rfl hm1 hn _ _ (.string l) rfl rfl (keyN hlm) (accD (i2, j2)) [] (accElem_mk (i2, j2)) ?_
                 intro w5 hm5 hg5)
    go_end0
    have hgb : g ≠ ba := L6.blk_ne_map hblk hA
    have ht : Turn S w w5 := (L6.Turn.of_keep hb2).grown hg5 (fun i e => by cases e; exact .inl h4)
    have hblk5 : Blk w5 g _ _ := ((hblk.below hb2 hblk.lt).grown hg5 (fun e => hgb (by simpa using e)))
    have hV5 := (L6.Turn.map (S := fun _ => False) (L6.Turn.of_keep hb2) hV (fun h => h)).kept hg5 (fun e => h6 (by simpa using e.symm))
    exact ⟨rfl, ⟨ba, bv, _, DV, hblk5, hm5, hV5.mono (by omega), h1.put hA.isMap okN_inj hlm (i2, j2), h2, .inl h3, .inl h4, .inl h5, h6⟩, ht⟩
theorem putG_nil (v : FV) (p : Plc) : putG v p [] = fun z => if z = p then none else v z := by funext z; unfold putG; simp
theorem putG_some (v : FV) (p : Plc) {l : List UInt8} (h : l ≠ []) : putG v p l = fun z => if z = p then some l else v z := by funext z; unfold putG; rw [if_neg h]
set_option maxHeartbeats 1000000 in
set_option maxRecDepth 100000 in
theorem set_none (h : St w S g f v n) (p : Plc) (hp : okP p) :
    Calls Tryz.prog 28 #[.pointer (some ⟨g, 0, none⟩), .string (str p.1), .string (str p.2), .string (str [])] w fun e w' => e = .returned (.tuple #[]) ∧ St w' (moreB S w w') g f (putG v p []) (n + 1) ∧ Turn S w w' := by
  obtain ⟨ba, bv, DA, DV, hblk, hA, hV, h1, h2, h3, h4, h5, h6⟩ := h
  have c1 := hblk.cell 1
  have hbd := build_place (str p.1) (str p.2)
  have e0 : (str []).toList.isEmpty = true := by rw [str_toList]; rfl
  go_enter Tryz.func28, Tryz.ntmps28
  go_wp2_with (first
    | (refine wpList_build rfl _ _ rfl #[(0, .string (str p.1)), (1, .string (str p.2))] rfl (hbd _) ?_)
    | (at_delete; go_loud (refine wpList_delete_own _ rfl _ _ 50 68 rfl 70 kdP Tryz.underlying50 entElem bv n DV rfl hV _ (.string (kbP p)) rfl (keyP hp) ?_); intro w5 hm5 hg5)
    | go_in)
  (try simp only [Exit.inBlock, Exit.then])
  refine bodyPost_ret (results_none rfl _ _ _) rfl ?_
  have hg5 := hg5.grown
  have hgb : g ≠ bv := L6.blk_ne_map hblk hV
  have hblk5 : Blk w5 g _ _ := hblk.grown hg5 (fun e => hgb (by simpa using e))
  have hA5 := hA.kept hg5 (fun e => h6 (by simpa using e))
  refine ⟨rfl, ⟨ba, bv, DA, _, hblk5, hA5.mono (by omega), hm5.mono (by omega), h1, ?_, .inl h3, .inl h4, .inl h5, h6⟩, (Turn.refl S w).grown hg5 (fun i e => by cases e; exact .inl h5)⟩
  rw [putG_nil]
  exact h2.del okP_inj hp
/-- What the reads meet. -/
def holdV (g bv : Nat) (W : World) : Prop := W.cell? ⟨g, 1, none⟩ = some (.map (some bv))
set_option maxHeartbeats 1000000 in
set_option maxRecDepth 100000 in
theorem set_some (h : St w S g f v n) (p : Plc) (l : List UInt8) (hl : l ≠ []) (h1l : p.1.length ≤ 1000000) (h2l : p.2.length ≤ 1000000) (h3l : l.length ≤ 1000000) (hn : n < maxLen) :
    Calls Tryz.prog 28 #[.pointer (some ⟨g, 0, none⟩), .string (str p.1), .string (str p.2), .string (str l)] w fun e w' => e = .returned (.tuple #[]) ∧ St w' (moreB S w w') g f (putG v p l) (n + 1) ∧ Turn S w w' := by
  obtain ⟨ba, bv, DA, DV, hblk, hA, hV, h1, h2, h3, h4, h5, h6⟩ := h
  have hp : okP p := by unfold okP maxLen; omega
  have c1 := hblk.cell 1
  have hc1 := fun w => c_clone p.1 w h1l
  have hc2 := fun w => c_clone p.2 w h2l
  have hc3 := fun w => c_clone l w h3l
  have e0 : (str l).toList.isEmpty = false := by rw [str_toList]; cases l with
    | nil => exact absurd rfl hl
    | cons a m => rfl
  go_enter Tryz.func28, Tryz.ntmps28
  go_wp2
  have hS : holdV g bv w.drew := c1
  refine wp_region_K (holdV g bv) [0, 1, 2, 3, 4, 6, 8, 9, 11] (by kernel_rfl) ?_
  refine wpK_quiet (f := 6) (by kernel_rfl) (fun _ x _ _ _ h => by cases x <;> exact h) hS [0, 1, 2, 3, 4, 6, 9] _ _ (by kernel_rfl) (by kernel_rfl) (by kernel_rfl) ?_
  have ne : Nonempty (WorldIn (holdV g bv)) := ⟨⟨_, hS⟩⟩
  have q0 := fun y : WorldIn (holdV g bv) => (show y.w.cell? ⟨g, 1, none⟩ = some (.map (some bv)) from y.h)
  conv => arg 5; simp [pick]
  iterate 7 go_big_quiet_step (fail)
  refine wpQuiet_nil ?_
  refine wpK_step 5 (by kernel_rfl) rfl ?_
  go_wp2_with (go_at_call 52; refine (hc1 _).mono ?_; rintro e w1 ⟨rfl, hb1⟩)
  have hb1' := L6.undrew hb1
  have hk1 : holdV g bv w1 := (hb1'.cell (p := ⟨g, 1, none⟩) (L2.cell_in c1)).trans c1
  refine stepQ.mk ⟨fun _ => hk1, ?_⟩
  refine wpK_step 7 (by kernel_rfl) rfl ?_
  go_wp2_with (go_at_call 52; refine (hc2 _).mono ?_; rintro e w2 ⟨rfl, hb2⟩)
  have hb2' := nxt hb1' hb2
  have hk2 : holdV g bv w2 := (hb2'.cell (p := ⟨g, 1, none⟩) (L2.cell_in c1)).trans c1
  refine stepQ.mk ⟨fun _ => hk2, ?_⟩
  refine wpK_quiet (f := 3) (by kernel_rfl) (fun _ x _ _ _ h => by cases x <;> exact h) hk2 [8] _ _ (by kernel_rfl) (by kernel_rfl) (by kernel_rfl) ?_
  conv => arg 5; simp [pick]
  refine wpQuiet_build rfl _ _ rfl #[(0, .string (str p.1)), (1, .string (str p.2))] rfl (fun y => build_place (str p.1) (str p.2) y) ?_
  conv => arg 6; simp only [Act.put, List.setIfInBounds_toArray, List.set_cons_zero, List.set_cons_succ]
  refine wpQuiet_nil ?_
  refine wpK_step 10 (by kernel_rfl) rfl ?_
  go_wp2_with (go_at_call 52; refine (hc3 _).mono ?_; rintro e w3 ⟨rfl, hb3⟩)
  have hb3' := nxt hb2' hb3
  have hk3 : holdV g bv w3 := (hb3'.cell (p := ⟨g, 1, none⟩) (L2.cell_in c1)).trans c1
  refine stepQ.mk ⟨fun _ => hk3, ?_⟩
  refine wpK_quiet (f := 1) (by kernel_rfl) (fun _ x _ _ _ h => by cases x <;> exact h) hk3 [11] _ _ (by kernel_rfl) (by kernel_rfl) (by kernel_rfl) ?_
  conv => arg 5; simp [pick]
  refine wpQuiet_build rfl _ _ rfl #[(0, .string (str l))] rfl (fun y => build_ent (str l) y) ?_
  conv => arg 6; simp only [Act.put, List.setIfInBounds_toArray, List.set_cons_zero, List.set_cons_succ]
  refine wpQuiet_nil ?_
  have hm3 : w3.ownsMap Tryz.prog 68 entElem bv n DV := L6.Turn.map (S := fun _ => False) (L6.Turn.of_keep hb3') hV (fun h => h)
  refine wpK_seq [12] _ _ _ (by kernel_rfl) ?_
  conv => arg 4; simp [pick]
  go_wp2_with (at_mapUpdate
               refine wpList_mapUpdate_own _ rfl _ _ _ 50 rfl 68 70 kdP Tryz.underlying50 _ bv n DV rfl hm3 hn _ _ (.string (kbP p)) rfl rfl (keyP hp) (entD l) [] (entElem_mk l) ?_
               intro w5 hm5 hg5)
  go_end0
  have hgb : g ≠ bv := L6.blk_ne_map hblk hV
  have hblk5 : Blk w5 g _ _ := ((hblk.below hb3' hblk.lt).grown hg5 (fun e => hgb (by simpa using e)))
  have hA5 := (L6.Turn.map (S := fun _ => False) (L6.Turn.of_keep hb3') hA (fun h => h)).kept hg5 (fun e => h6 (by simpa using e))
  refine ⟨rfl, ⟨ba, bv, DA, _, hblk5, hA5.mono (by omega), hm5, h1, ?_, .inl h3, .inl h4, .inl h5, h6⟩, (L6.Turn.of_keep hb3').grown hg5 (fun i e => by cases e; exact .inl h5)⟩
  rw [putG_some _ _ hl]
  exact h2.put hV.isMap okP_inj hp l
theorem set_any (h : St w S g f v n) (p : Plc) (l : List UInt8) (h1l : p.1.length ≤ 1000000) (h2l : p.2.length ≤ 1000000) (h3l : l.length ≤ 1000000) (hn : n < maxLen) :
    Calls Tryz.prog 28 #[.pointer (some ⟨g, 0, none⟩), .string (str p.1), .string (str p.2), .string (str l)] w fun e w' => e = .returned (.tuple #[]) ∧ St w' (moreB S w w') g f (putG v p l) (n + 1) ∧ Turn S w w' := by
  by_cases hl : l = []
  · subst hl
    exact set_none h p (by unfold okP maxLen; omega)
  · exact set_some h p l hl h1l h2l h3l hn
end
end Go.Proofs.YthkgadjiiapfgaaGreatDoor
