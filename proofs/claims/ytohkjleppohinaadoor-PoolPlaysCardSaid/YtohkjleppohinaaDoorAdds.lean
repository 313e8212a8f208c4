/-
  One more waits: the code.
-/
import Derived.Test.YtohkjleppohinaaDoorAdd
set_option linter.unusedSimpArgs false
set_option linter.unusedVariables false
set_option maxRecDepth 10000
namespace Go.Proofs.YtohkjleppohinaaDoor
open Go.RowKit Go.Lib
open L3 (Blk Reads block_of_add add_of_add)
open L6 (Turn moreB fresh From In)

theorem tx_parts : ∃ i : TypeInfo, Tryd.prog.info? 35 = some i ∧ i.zero = some (.agg (txC zeroX)) ∧ i.size = 7 ∧ i.bytes = 88 := by
  have h3 : (Tryd.prog.info? 35).map (fun i => (i.zero, i.size, i.bytes)) = some (some (.agg (txC zeroX)), 7, 88) := by kernel_rfl
  obtain ⟨i, hi, he⟩ := Option.map_eq_some_iff.1 h3
  simp only [Prod.mk.injEq] at he
  exact ⟨i, hi, he⟩
theorem slice_tx (t : Txx) (w : World) : (Instr.buildSlice 28 1 #[(0, .agg (txC t))]).run Tryd.prog w = .ok (.slice (some ⟨w.heap.size, 0, none⟩) 1 1) (w.alloc (.cells (txC t) 35)) := by kernel_rfl
/-- What is read while one more is appended. -/
def holdA (g b : Nat) (v : Value) (t : Txx) (X : World) : Prop := X.cell? ⟨g, 1, none⟩ = some v ∧ Blk X b 35 (txC t)
set_option maxHeartbeats 4000000 in
set_option maxRecDepth 100000 in
theorem add_any {w : World} {S : Nat → Prop} {g : Nat} {most : Int} {L : List Txx} (h : Pl w S g most L) (t : Txx) (ht : t.wf 1000) (hT : Tabs w) :
    Calls Tryd.prog 10 #[.pointer (some ⟨g, 0, none⟩), .agg (txC t)] w fun e w' => e = .returned (.int .i64 (addE most L t)) ∧ Pl w' (moreB S w w') g most (addL most L t) ∧ Turn S w w' := by
  obtain ⟨i0, hi, hz0, hz1, hz2⟩ := tx_parts
  have hyb := box_new w 35 t
  have hb0 : Below w.heap.size w (w.alloc (.cells (txC t) 35)) := below_box _ t
  have HRF := Lib.hid (refuses_any (h.below hb0) t ht (hT.kept hb0))
  have HPL := Lib.hid h
  obtain ⟨k, hk⟩ : ∃ k, k = addE most L t := ⟨_, rfl⟩
  rw [← hk] at HRF ⊢
  by_cases hk0 : k = 0
  case neg =>
    have HA := Lib.hid (show addL most L t = L by unfold addL; rw [← hk, if_neg hk0])
    have hne : (k == 0) = false := by simpa using hk0
    clear hk hT h
    go_enter Tryd.func10, Tryd.ntmps10
    go_wp2_with (first
      | (refine wpList_row_at rfl _ _ rfl w.heap.size rfl _ _ _ _ hyb Tryd.underlying35 rfl (by kernel_rfl) ?_)
      | (go_at_call 23; refine HRF.out.mono ?_; unfold gives; rintro e w1 ⟨rfl, hb1⟩)
      | go_in)
    go_ret
    have hb := nxt hb0 hb1
    refine ⟨rfl, ?_, L6.Turn.of_keep hb⟩
    rw [HA.out]
    exact (HPL.out.below hb).mono fun _ h => .inl h
  case pos =>
    subst hk0
    have HA := Lib.hid (show addL most L t = L ++ [t] by unfold addL; rw [← hk, if_pos rfl])
    clear hk hT
    obtain ⟨v, hb, hrow, hf, hg, hv⟩ := h
    have HF : Hid (Fine most (L ++ [t])) := Lib.hid (by have := hf.add t; rw [HA.out] at this; exact this)
    have HROW := Lib.hid hrow
    have hlen := hf.len
    obtain ⟨n, hn⟩ : ∃ n, n = L.length := ⟨_, rfl⟩
    rw [← hn] at hlen
    have HN := Lib.hid hn
    have HV := Lib.hid hv
    clear hf hrow hn hv
    go_enter Tryd.func10, Tryd.ntmps10
    go_upto_region 4 with (first
      | (refine wpList_row_at rfl _ _ rfl w.heap.size rfl _ _ _ _ hyb Tryd.underlying35 rfl (by kernel_rfl) ?_)
      | (go_at_call 23; refine HRF.out.mono ?_; unfold gives; rintro e w1 ⟨rfl, hb1⟩)
      | go_in)
    have hb2 : Below w.heap.size w w1 := nxt hb0 hb1
    have hBx : Blk w1 w.heap.size 35 (txC t) := hyb.below hb1 hyb.lt
    have hPb := hb.below hb2 hb.lt
    have hgw := hb.lt
    have HR1 := Lib.hid ((show Turn (fun _ => False) w w1 from L6.Turn.of_keep hb2).row HROW.out (fun k _ h => h))
    clear hyb hb hb0 HRF hb1
    have hS : holdA g w.heap.size v t w1.drew := ⟨hPb.cell 1, hBx⟩
    refine wp_region_K (holdA g w.heap.size v t) [0, 1, 2, 3, 4, 5] (by kernel_rfl) ?_
    refine wpK_quiet (f := 6) (by kernel_rfl) (fun _ x _ _ _ h => by cases x <;> exact h) hS [0, 1, 2, 3, 4, 5] _ _ (by kernel_rfl) (by kernel_rfl) (by kernel_rfl) ?_
    have ne : Nonempty (WorldIn (holdA g w.heap.size v t)) := ⟨⟨_, hS⟩⟩
    have p0 : ∀ y : WorldIn (holdA g w.heap.size v t), y.w.cell? ⟨g, 1, none⟩ = some v := fun y => y.h.1
    conv => arg 5; simp [pick]
    iterate 5 go_big_quiet_step (fail)
    refine wpQuiet_row rfl _ _ rfl w.heap.size rfl _ _ _ _ (fun y => y.h.2) Tryd.underlying35 rfl (by kernel_rfl) ?_
    conv => arg 6; simp only [Act.put, List.setIfInBounds_toArray, List.set_cons_zero, List.set_cons_succ]
    refine wpQuiet_nil ?_
    refine wpK_step 6 (by kernel_rfl) rfl ?_
    go_wp2_with (go_at_call 24; refine (own_any t _ (ht.le (by omega))).mono ?_; unfold gives; rintro e w2 ⟨rfl, hbD⟩)
    have hb3 : Below w1.heap.size w1 w2 := L6.undrew hbD
    have hB2 := hBx.below hb3 hBx.lt
    have hP2 := hPb.below hb3 hPb.lt
    refine stepQ.mk ⟨fun _ => ⟨hP2.cell 1, hB2⟩, ?_⟩
    refine wpK_step 7 (by kernel_rfl) rfl ?_
    refine wpList_buildSlice rfl _ _ _ rfl #[(0, .agg (txC t))] rfl (slice_tx t w2) ?_
    go_wp2
    refine stepQ.mk ⟨fun _ => ⟨(hP2.alloc _).cell 1, hB2.alloc _⟩, ?_⟩
    refine wpK_step 8 (by kernel_rfl) rfl ?_
    have hr2 : w2.ownsRow 0 35 7 v n (L.flatMap txL) := by rw [HN.out]; exact (show Turn (fun _ => False) w1 w2 from L6.Turn.of_keep hb3).row HR1.out (fun k _ h => h)
    have hrA : (w2.alloc (.cells (txC t) 35)).ownsRow 0 35 7 v n (L.flatMap txL) := hr2.alloc _
    have hxb : Blk (w2.alloc (.cells (txC t) 35)) w2.heap.size 35 (txC t) := Blk.new _ _ _
    refine L3.wpList_append_any _ rfl (.tmp 16) (.tmp 19) 28 rfl 0 35 i0 _ 7 88 Tryd.underlying28 hi hz0 hz1 hz2 rfl (by decide) v n (L.flatMap txL) rfl hrA (w2.heap.size + 1) (some ⟨w2.heap.size, 0, none⟩) 1 1 (txL t) rfl (reads_one (k := 7) rfl hxb) (one_txL t) (by unfold maxLen; omega) (by omega) (Nat.zero_le _) ?_
    intro v3 w3 hr3 hg3 hat3
    go_wp2
    have hvg : v.ownBlock ≠ some g := row_ne hr2 hP2 (by decide)
    have hP3 := (hP2.alloc (.cells (txC t) 35)).grown hg3 (fun e => hvg e.symm)
    have hvw : v.ownBlock ≠ some w.heap.size := fun e => by have := (HROW.out.lt _ e).2; omega
    have hB3 := (hB2.alloc (.cells (txC t) 35)).grown hg3 (fun e => hvw e.symm)
    refine stepQ.mk ⟨fun _ => ⟨hP3.cell 1, hB3⟩, ?_⟩
    obtain ⟨A3, c3, rfl, hc3, _⟩ := L6.row_reads hr3
    have q1 := hP3.cell 1
    have f1 := hP3.frozen 1
    refine wpK_seq [9, 10, 11] _ _ _ (by kernel_rfl) ?_
    conv => arg 4; simp [pick]
    go_wp2
    go_ret
    have ht3 : Turn S w w3 := ((((L6.Turn.of_keep hb2).kept hb3).alloc (.cells (txC t) 35))).grown hg3 (fun i e => .inl (HV.out i e))
    have hR4 := ((L6.Turn.refl (fun k => k = g) w3).setCell (p := ⟨g, 1, none⟩) (.inl rfl) (.slice A3 (n + 1) c3)).row hr3 (fun k hk e => row_ne hr3 hP3 (by decide) (by rw [hk, e]))
    have hs2 := (nxt hb2 hb3).size
    refine ⟨rfl, ⟨.slice A3 (n + 1) c3, hP3.set_ 1 _, ?_, by rw [HA.out]; exact HF.out, .inl hg, fun k hk => ?_⟩, ht3.setCell (.inl hg) _⟩
    · rw [HA.out, List.length_append, List.flatMap_append, ← HN.out]
      simpa using hR4
    · rcases hat3 with e | e
      · rw [e] at hk; exact .inl (HV.out k hk)
      · have := (hR4.lt k hk).2
        rw [e] at hk; simp at hk; right; exact ⟨by omega, this⟩
end Go.Proofs.YtohkjleppohinaaDoor
