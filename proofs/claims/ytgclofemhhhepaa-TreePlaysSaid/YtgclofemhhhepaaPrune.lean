/-
  A tree pruned.
-/
import Derived.Test.YtgclofemhhhepaaAbove
set_option linter.unusedSimpArgs false
set_option linter.unusedVariables false
set_option maxRecDepth 10000
namespace Go.Proofs.Ytgclofemhhhepaa
open Go.RowKit Go.Maps Go.Lib
open L3 (Blk Reads)
open L6 (Turn moreB fresh From In)

theorem exec_fld {ev : Operand → Value} {o : Oper} {W : World} (x : Operand) (hop : o.op = Op.field 39 x 1) (y : Bl) (hx : ev x = .agg (blC y)) : (execOp ev o).run Try.prog W = .ok (.value (.int .i64 y.rd)) W := by
  simp [execOp, hop, hx, fld_rd y W, Result.andThen]
theorem exec_look {n : Nat} {ev : Operand → Value} {o : Oper} {W : World} (m x : Operand) (hop : o.op = Op.lookup 64 m x false) (b : Nat) (D : DataW Unit) (hm : ev m = .map (some b)) (hown : W.ownsMap Try.prog 3 blElem b n D)
    (k : Int) (hx : ev x = .int .i64 k) (hk : inI k) (y : Bl) (hat : D.atKey (keyI k) (blD zeroBl) = blD y) : (execOp ev o).run Try.prog W = .ok (.value (.agg (blC y))) W := by
  obtain ⟨v, ps, hrun, hv⟩ := hown.lookup kdI Try.underlying64 (zeroBlk W) (blElem_mk zeroBl) (key_at hk)
  obtain rfl := bl_is hv hat
  simp [execOp, hop, hm, hx, hrun, Result.andThen]
/-- What the stores of root and round meet. -/
def RootAt (ct g bb N : Nat) (DB : DataW Unit) (W : World) : Prop := W.cell? ⟨ct, 0, none⟩ = some (.pointer (some ⟨g, 0, none⟩)) ∧ W.cell? ⟨g, 3, none⟩ = some (.map (some bb)) ∧ W.ownsMap Try.prog 3 blElem bb N DB
theorem cut_nodup {L : List Ent} (h : (L.map (·.n)).Nodup) (K : List Int) (rd : Int) : ((cutL L K rd).map (·.n)).Nodup := List.Nodup.sublist (List.Sublist.map _ List.filter_sublist) h
theorem inF_cut {L : List Ent} (h : (L.map (·.n)).Nodup) (K : List Int) (rd x : Int) : inF (cutL L K rd) x = if x ∈ K then inF L x else none := by
  refine opt_ext fun b => ?_
  rw [inF_iff (cut_nodup h K rd)]
  by_cases c : x ∈ K
  · rw [if_pos c, inF_iff h]
    constructor
    · rintro ⟨e, he, h1, h2, h3⟩; exact ⟨e, (cutL_mem.1 he).1, h1, h2, h3⟩
    · rintro ⟨e, he, h1, h2, h3⟩; exact ⟨e, cutL_mem.2 ⟨he, .inl ⟨h2, by rw [h1]; exact c⟩⟩, h1, h2, h3⟩
  · rw [if_neg c]
    constructor
    · rintro ⟨e, he, h1, h2, h3⟩
      rcases (cutL_mem.1 he).2 with hq | hq
      · exact absurd (h1 ▸ hq.2) c
      · rw [hq.1] at h2; cases h2
    · intro hq; cases hq
theorem outF_cut {L : List Ent} (h : (L.map (·.n)).Nodup) (K : List Int) (rd x : Int) : outF (cutL L K rd) x = (outF L x).bind fun y => if y.rd ≤ rd then none else some y := by
  refine opt_ext fun b => ?_
  rw [outF_iff (cut_nodup h K rd), Option.bind_eq_some_iff]
  constructor
  · rintro ⟨e, he, h1, h2, h3⟩
    obtain ⟨he1, hq⟩ := cutL_mem.1 he
    have hr : rd < e.rd := by
      rcases hq with hq | hq
      · rw [hq.1] at h2; cases h2
      · exact hq.2
    refine ⟨e.b, (outF_iff h).2 ⟨e, he1, h1, h2, rfl⟩, ?_⟩
    rw [if_neg (by show ¬ e.b.rd ≤ rd; have : e.b.rd = e.rd := rfl; omega), h3]
  · rintro ⟨y, hy, hb⟩
    obtain ⟨e, he, h1, h2, h3⟩ := (outF_iff h).1 hy
    by_cases c : y.rd ≤ rd
    · rw [if_pos c] at hb; cases hb
    · rw [if_neg c] at hb
      injection hb with hb
      refine ⟨e, cutL_mem.2 ⟨he, .inr ⟨h2, ?_⟩⟩, h1, h2, h3.trans hb⟩
      show rd < e.b.rd
      rw [h3]; omega
def CtAt (ct g : Nat) (W : World) : Prop := W.cell? ⟨ct, 0, none⟩ = some (.pointer (some ⟨g, 0, none⟩))
set_option maxHeartbeats 4000000 in
set_option maxRecDepth 100000 in
theorem prune_any {w : World} {S : Nat → Prop} {g : Nat} {s : TS} (h : Tr w S g s) (hwf : s.wf) (hl : s.L.length ≤ 100000) (hIn : In w S) {n : Int} (hn : inI n) (h0 : lackE s n = 0) (hr : n ≠ s.root) :
    Calls Try.prog 13 #[.pointer (some ⟨g, 0, none⟩), .int .i64 n] w fun e w' => e = .returned (.int .i64 0) ∧ ∃ K y, inF s.L n = some y ∧ (∀ k, k ∈ K ↔ Under s.root s.L n k) ∧
      Tr w' (moreB S w w') g ⟨s.most, n, y.rd, cutL s.L K y.rd⟩ ∧ Turn S w w' := by
  have hb1 : Below w.heap.size w (w.alloc (.cells #[.pointer (some ⟨g, 0, none⟩)] 24)) := (Below.refl _ _).alloc (Nat.le_refl _) _
  have k1 : Blk (w.alloc (.cells #[.pointer (some ⟨g, 0, none⟩)] 24)) w.heap.size 24 #[.pointer (some ⟨g, 0, none⟩)] := Blk.new _ _ _
  have HL := Lib.hid (fun W (hb : Below w.heap.size w W) => by have := lacks_any (h.below hb) n hn; rw [h0] at this; exact this)
  have HT := Lib.hid h
  have HC := Lib.hid (fun W (hb : Below w.heap.size w W) => (show W.cell? ⟨g, 1, none⟩ = some (.int .i64 s.root) from by obtain ⟨bb, bo, DB, DO, hbg, _⟩ := h.below hb; exact hbg.cell 1))
  have HIN := Lib.hid hIn
  obtain ⟨y, hy⟩ : ∃ y, inF s.L n = some y := by
    have hv : hasV s.root s.L n := by
      refine Classical.byContradiction fun hv => ?_
      unfold lackE at h0
      rw [if_neg hv] at h0
      split at h0 <;> cases h0
    rcases hv with hv | ⟨e, he, h2, h3⟩
    · exact absurd hv hr
    · exact ⟨e.b, (inF_iff hwf.one.1).2 ⟨e, he, h2, h3, rfl⟩⟩
  have HY := Lib.hid hy
  have HW := Lib.hid hwf
  have hrq : (n == s.root) = false := by simpa using hr
  obtain ⟨w1, hw1⟩ : ∃ w1, w1 = w.alloc (.cells #[.pointer (some ⟨g, 0, none⟩)] 24) := ⟨_, rfl⟩
  rw [← hw1] at hb1 k1
  have c0 := k1.cell 0
  clear h hIn hy hwf h0 hr
  go_enter Try.func13, Try.ntmps13
  go_upto_region 1 with fail
  rw [← hw1]
  clear hw1
  go_upto_region 4 with (first
    | (go_at_call 29; (with_reducible refine (HL.out _ hb1).mono ?_); unfold gives; rintro e w2 ⟨rfl, hb2⟩; have c1 := HC.out _ (nxt hb1 hb2); have c0' := (k1.below hb2 k1.lt).cell 0)
    | go_in)
  have hbw2 : Below w.heap.size w w2 := nxt hb1 hb2
  obtain ⟨bb, bo, DB, DO, hbg, o1, o2, f1, f2, g1, g2, g3, hne⟩ := HT.out.below hbw2
  have kct : Blk w2 w.heap.size 24 #[.pointer (some ⟨g, 0, none⟩)] := k1.below hb2 k1.lt
  have hgw : g < w.heap.size := HT.out.lt
  have hgb : g ≠ bb := L6.blk_ne_map hbg o1
  have hgo : g ≠ bo := L6.blk_ne_map hbg o2
  have hS : RootAt w.heap.size g bb s.L.length DB w2.drew := ⟨kct.cell 0, hbg.cell 3, o1.drew⟩
  obtain ⟨hat, _⟩ := look_in f1 hn
  rw [HY.out] at hat
  replace hat : DB.atKey (keyI n) (blD zeroBl) = blD y := hat
  clear c1 c0 c0' k1
  refine wp_region_K (RootAt w.heap.size g bb s.L.length DB) [0, 1, 2, 3, 4, 5, 6, 7, 8, 9, 10, 11] (by kernel_rfl) ?_
  refine wpK_quiet (f := 4) (by kernel_rfl) (fun _ x _ _ _ h => by cases x <;> exact h) hS [0, 1, 2, 3, 4, 5, 6, 7, 8, 9, 10, 11] _ _ (by kernel_rfl) (by kernel_rfl) (by kernel_rfl) ?_
  have ne : Nonempty (WorldIn (RootAt w.heap.size g bb s.L.length DB)) := ⟨⟨_, hS⟩⟩
  have r0 := fun z : WorldIn (RootAt w.heap.size g bb s.L.length DB) => z.h.1
  have r1 := fun z : WorldIn (RootAt w.heap.size g bb s.L.length DB) => z.h.2.1
  conv => arg 5; simp [pick]
  iterate 8 go_big_quiet_step (fail)
  refine wpQuiet_value rfl (fun z => exec_look _ _ rfl bb DB rfl z.h.2.2 n rfl hn y hat) ?_
  conv => arg 6; simp only [Act.put, List.setIfInBounds_toArray, List.set_cons_zero, List.set_cons_succ]
  refine wpQuiet_value rfl (fun z => exec_fld _ rfl y rfl) ?_
  conv => arg 6; simp only [Act.put, List.setIfInBounds_toArray, List.set_cons_zero, List.set_cons_succ]
  iterate 2 go_big_quiet_step (fail)
  refine wpQuiet_nil ?_
  have x1 := hbg.cell 1
  have x2 := hbg.cell 2
  have z1 := hbg.frozen 1
  have z2 := hbg.frozen 2
  have hgc : w.heap.size ≠ g := by omega
  have b1 : Blk (w2.setCell ⟨g, 1, none⟩ (.int .i64 n)).drew g 66 #[.int .i64 s.most, .int .i64 n, .int .i64 s.round, .map (some bb), .map (some bo)] := (hbg.set_ 1 (.int .i64 n)).drew
  have t1 : Turn S w2 (w2.setCell ⟨g, 1, none⟩ (.int .i64 n)).drew := ((L6.Turn.refl S w2).setCell (.inl g1) _).drew
  have u1 : Turn (fun j => j = g) w2 (w2.setCell ⟨g, 1, none⟩ (.int .i64 n)).drew := ((L6.Turn.refl (fun j => j = g) w2).setCell (.inl rfl) _).drew
  have hS1 : RootAt w.heap.size g bb s.L.length DB (w2.setCell ⟨g, 1, none⟩ (.int .i64 n)).drew := ⟨u1.cell (kct.cell 0) hgc, b1.cell 3, u1.map o1 (fun h => hgb h.symm)⟩
  refine wpK_step 12 (by kernel_rfl) rfl ?_
  go_wp2
  refine stepQ.mk ⟨fun _ => hS1, ?_⟩
  obtain ⟨w3, hw3⟩ : ∃ w3, w3 = (w2.setCell ⟨g, 1, none⟩ (.int .i64 n)).drew := ⟨_, rfl⟩
  rw [← hw3] at b1 t1 u1 hS1 ⊢
  clear hw3 x1 x2 z1 z2
  refine wpK_step 13 (by kernel_rfl) rfl ?_
  go_wp2
  refine stepQ.mk ⟨fun _ => hS1, ?_⟩
  refine wpK_step 14 (by kernel_rfl) rfl ?_
  go_wp2
  refine stepQ.mk ⟨fun _ => hS1, ?_⟩
  have x2 := b1.cell 2
  have z2 := b1.frozen 2
  have b2 : Blk (w3.setCell ⟨g, 2, none⟩ (.int .i64 y.rd)) g 66 #[.int .i64 s.most, .int .i64 n, .int .i64 y.rd, .map (some bb), .map (some bo)] := b1.set_ 2 (.int .i64 y.rd)
  have t2 : Turn S w2 (w3.setCell ⟨g, 2, none⟩ (.int .i64 y.rd)) := t1.setCell (.inl g1) _
  have u2 : Turn (fun j => j = g) w2 (w3.setCell ⟨g, 2, none⟩ (.int .i64 y.rd)) := u1.setCell (.inl rfl) _
  obtain ⟨w4, hw4⟩ : ∃ w4, w4 = w3.setCell ⟨g, 2, none⟩ (.int .i64 y.rd) := ⟨_, rfl⟩
  have hS2 : RootAt w.heap.size g bb s.L.length DB w4 := by rw [hw4]; exact ⟨u2.cell (kct.cell 0) hgc, b2.cell 3, u2.map o1 (fun h => hgb h.symm)⟩
  refine wpK_step 15 (by kernel_rfl) rfl ?_
  go_wp2
  rw [← hw4] at b2 t2 u2 ⊢
  clear hw4 x2 z2 b1 t1 u1 hS1 hS ne r0 r1
  refine stepQ.mk ⟨fun _ => hS2, ?_⟩
  refine wpK_seq [] _ _ _ (by kernel_rfl) ?_
  conv => arg 4; simp [pick]
  go_upto_region 5 with fail
  have hang : Hang s.root s.L n := by
    obtain ⟨e, he, h2, h3, _⟩ := (inF_iff HW.out.one.1).1 HY.out
    rw [← h2]
    exact (HW.out.ok e he).1 h3
  have HAB := Lib.hid (above_any (w := w4.drew) (n := n) (r := s.root) (L := s.L) hS2.2.1 hS2.2.2 f1 HW.out.one HW.out.ok HW.out.n HW.out.b hl hang hn)
  have hS4 : CtAt w.heap.size g w4.drew := hS2.1
  refine wp_region_K (CtAt w.heap.size g) [0, 1, 2] (by kernel_rfl) ?_
  refine wpK_quiet (f := 4) (by kernel_rfl) (fun _ x _ _ _ h => by cases x <;> exact h) hS4 [0, 1, 2] _ _ (by kernel_rfl) (by kernel_rfl) (by kernel_rfl) ?_
  have ne : Nonempty (WorldIn (CtAt w.heap.size g)) := ⟨⟨_, hS4⟩⟩
  have r0 := fun z : WorldIn (CtAt w.heap.size g) => (show z.w.cell? ⟨w.heap.size, 0, none⟩ = some (.pointer (some ⟨g, 0, none⟩)) from z.h)
  conv => arg 5; simp [pick]
  iterate 3 go_big_quiet_step (fail)
  refine wpQuiet_nil ?_
  refine wpK_step 3 (by kernel_rfl) rfl ?_
  go_wp2_with (go_at_call 30; refine HAB.out.mono ?_; rintro e w5 ⟨bk, K, DK, m, rfl, hbk, hown5, hfit5, hKn, hK, hb5⟩)
  have hb5' : Below w4.heap.size w4 w5 := nxt (Below.refl _ _).drew hb5
  have hct5 : CtAt w.heap.size g w5 := (hb5'.cell (p := ⟨w.heap.size, 0, none⟩) (World.block_lt_of_cell? _ _ hS2.1)).trans hS2.1
  have b5 := b2.below hb5' b2.lt
  refine stepQ.mk ⟨fun _ => hct5, ?_⟩
  clear hS4 ne r0
  refine wpK_step 4 (by kernel_rfl) rfl ?_
  go_wp2
  refine stepQ.mk ⟨fun _ => hct5, ?_⟩
  refine wpK_step 5 (by kernel_rfl) rfl ?_
  go_wp2
  refine stepQ.mk ⟨fun _ => hct5, ?_⟩
  have y3 := b5.cell 3
  have z3 := b5.frozen 3
  have b6 : Blk (w5.setCell ⟨g, 3, none⟩ (.map (some bk))) g 66 #[.int .i64 s.most, .int .i64 n, .int .i64 y.rd, .map (some bk), .map (some bo)] := b5.set_ 3 (.map (some bk))
  have u6 : Turn (fun j => j = g) w2 (w5.setCell ⟨g, 3, none⟩ (.map (some bk))) := (u2.kept hb5').setCell (.inl rfl) _
  have t6 : Turn S w2 (w5.setCell ⟨g, 3, none⟩ (.map (some bk))) := (t2.kept hb5').setCell (.inl g1) _
  have hbkg : bk ≠ g := by have := u2.size; have := hbw2.size; have : w4.drew.heap.size = w4.heap.size := rfl; omega
  have own6 := hown5.setCell (a := ⟨g, 3, none⟩) hbkg (.map (some bk))
  obtain ⟨w6, hw6⟩ : ∃ w6, w6 = w5.setCell ⟨g, 3, none⟩ (.map (some bk)) := ⟨_, rfl⟩
  refine wpK_step 6 (by kernel_rfl) rfl ?_
  go_wp2
  rw [← hw6] at b6 u6 t6 own6 ⊢
  have q0 : w6.cell? ⟨w.heap.size, 0, none⟩ = some (.pointer (some ⟨g, 0, none⟩)) := u6.cell (kct.cell 0) hgc
  clear hw6 y3 z3
  refine stepQ.mk ⟨fun _ => q0, ?_⟩
  refine wpK_seq [] _ _ _ (by kernel_rfl) ?_
  conv => arg 4; simp [pick]
  have hbow : bo < w.heap.size := HIN.out bo g3
  have hcbo : w.heap.size ≠ bo := by omega
  have q4 := b6.cell 4
  have HDEL := Lib.hid (del_any (u6.map o2 (fun h => hgo h.symm)) f2 q0 (b6.cell 2) hgo hcbo)
  have HF5 := Lib.hid hfit5
  have HKU := Lib.hid hK
  have hbkbo : bk ≠ bo := by have := u2.size; have := hbw2.size; have : w4.drew.heap.size = w4.heap.size := rfl; omega
  have hwbk : w.heap.size ≤ bk := by have := u2.size; have := hbw2.size; have : w4.drew.heap.size = w4.heap.size := rfl; omega
  clear hfit5 hK hKn hat HAB hang hown5 b5 b2 hS2 hct5 o1 o2 f1 f2
  go_wp2_with (first
    | (go_at_call 31; refine HDEL.out.mono ?_; rintro e w7 ⟨rfl, D', ho7, hf7, t7⟩)
    | go_in)
  go_ret
  have tall : Turn S w w7 := ((L6.Turn.of_keep (S := S) hbw2).trans t6 (fun _ h => .inl h)).trans t7 (fun i h => .inl (by rw [h]; exact g3))
  have own7 := t7.map own6 hbkbo
  refine ⟨rfl, K, y, HY.out, HKU.out, ⟨bk, bo, Tm.make (t7.blk b6 hgo) own7 ho7 (HF5.out.congr fun x _ => (inF_cut HW.out.one.1 K y.rd x).symm) (hf7.congr fun x _ => (outF_cut HW.out.one.1 K y.rd x).symm) (cut_nodup HW.out.one.1 K y.rd) (fun e he => HW.out.n e (cutL_mem.1 he).1) ⟨.inl g1, .inr ⟨hwbk, own7.lt⟩, .inl g3⟩ hbkbo⟩, tall⟩
end Go.Proofs.Ytgclofemhhhepaa
