/-
  The document's register: a share is there; a set's shares, so many; a new one.
-/
import Derived.Test.YtjkfogjhakcnfaaDoorRefSign
set_option linter.unusedSimpArgs false
set_option linter.unusedVariables false
namespace Go.Proofs.YtjkfogjhakcnfaaDoor
open Go.RowKit Go.Maps Go.Lib

theorem refissue_out (S : Nat → Prop) (r : Nat) (f : Int) (bad : Nat) (L : List Shr) (x : Shr) (w : World) (h : Rs w S r f bad L) (hf : inI f) (hk : inN f x.k = false) :
    Calls Tryd.prog 17 #[.pointer (some ⟨r, 0, none⟩), .agg (shrC x)] w fun e w' => e = .returned (.int .i64 40) ∧ Below w.heap.size w w' := by
  obtain ⟨v, hb, hr, h1, h3⟩ := h
  have hb0 : Below w.heap.size w (w.alloc (.cells (shrC x) 53)) := (Below.refl _ _).alloc (Nat.le_refl _) _
  have s0 : (shrC x)[0]? = some (.int .i64 x.k) := rfl
  have ha := fun w => refall_any f w hf.1 hf.2
  obtain ⟨m, hm, hm10⟩ := more_is f
  rw [hm] at ha
  have c0 := (hb.alloc (.cells (shrC x) 53)).cell 0
  have HA := Lib.hid ha
  unfold inN at hk
  rw [hm] at hk
  have hk := of_decide_eq_false hk
  clear ha hr h3 hm
  obtain ⟨q, hq⟩ : ∃ q, q = x.k := ⟨_, rfl⟩
  rw [← hq] at s0 hk
  by_cases hk0 : q < 0
  · clear hq hk
    go_enter Tryd.func17, Tryd.ntmps17
    go_wp2
    go_quiet (fail)
    go_wp2
    go_ret
    exact ⟨rfl, below_drewN hb0 _⟩
  · have hk0' : decide (q < 0) = false := by simp; omega
    have hk1 : (m : Int) ≤ q := by omega
    clear hq hk0 hk
    go_enter Tryd.func17, Tryd.ntmps17
    go_wp2
    go_quiet ((go_at_call 10; exact quiet_left (HA.out _)))
    go_wp2
    go_ret
    exact ⟨rfl, below_drewN hb0 _⟩
/-- What the reads of the document's append meet. -/
def holdA (r m : Nat) (x : Shr) (v : Value) (W : World) : Prop := W.cell? ⟨r, 2, none⟩ = some v ∧ Blk W m 53 (shrC x)
set_option maxHeartbeats 1000000 in
set_option maxRecDepth 100000 in
theorem refissue_old (S : Nat → Prop) (r : Nat) (f : Int) (bad : Nat) (L : List Shr) (x : Shr) (w : World) (h : Rs w S r f bad L) (hf : inI f) (hx : x.wf) (hL : ∀ y ∈ L, y.wf) (hl : L.length ≤ 1000000000) (hk : inN f x.k = true) (hn : x ∈ L) :
    Calls Tryd.prog 17 #[.pointer (some ⟨r, 0, none⟩), .agg (shrC x)] w fun e w' => e = .returned (.int .i64 0) ∧ Below w.heap.size w w' := by
  have HB := Lib.hid h
  obtain ⟨v, hb, hr, h1, h3⟩ := h
  have hb0 : Below w.heap.size w (w.alloc (.cells (shrC x) 53)) := (Below.refl _ _).alloc (Nat.le_refl _) _
  have s0 : (shrC x)[0]? = some (.int .i64 x.k) := rfl
  have ha := fun w => refall_any f w hf.1 hf.2
  have hhas := fun w5 (hR : Rs w5 S r f bad L) => refhasS_any S r f bad L x w5 hR hx hL hl
  rw [decide_eq_true hn] at hhas
  obtain ⟨m, hm, hm10⟩ := more_is f
  rw [hm] at ha
  have c0 := (hb.alloc (.cells (shrC x) 53)).cell 0
  have HA := Lib.hid (And.intro ha hhas)
  unfold inN at hk
  rw [hm] at hk
  have hk := of_decide_eq_true hk
  obtain ⟨q, hq⟩ : ∃ q, q = x.k := ⟨_, rfl⟩
  rw [← hq] at s0 hk
  have hk0' : decide (q < 0) = false := by simp; omega
  have hk1' : decide ((m : Int) ≤ q) = false := by simp; omega
  clear hq hk ha hr h3 hm hhas hn
  go_enter Tryd.func17, Tryd.ntmps17
  go_wp2
  go_quiet ((go_at_call 10; exact quiet_left (HA.out.1 _)))
  go_wp2_with (first
    | (refine wpList_row_at rfl _ _ rfl w.heap.size rfl _ _ _ _ (Blk.drewN (Blk.new w 53 (shrC x)) _) Tryd.underlying53 rfl (by kernel_rfl) ?_)
    | (go_at_call 35; refine (HA.out.2 _ (HB.out.below (below_drewN hb0 _))).mono ?_; rintro e w5 ⟨rfl, hb5⟩))
  go_ret
  exact ⟨rfl, (below_drewN hb0 _).trans (hb5.mono hb0.size)⟩
set_option maxHeartbeats 2000000 in
set_option maxRecDepth 100000 in
theorem refissue_new (S : Nat → Prop) (r : Nat) (f : Int) (bad : Nat) (L : List Shr) (x : Shr) (w : World) (h : Rs w S r f bad L) (hf : inI f) (hx : x.wf) (hL : ∀ y ∈ L, y.wf) (hl : L.length ≤ 1000000000) (hk : inN f x.k = true) (hn : x ∉ L) :
    Calls Tryd.prog 17 #[.pointer (some ⟨r, 0, none⟩), .agg (shrC x)] w fun e w' => e = .returned (.int .i64 0) ∧ Rs w' (moreB S w w') r f bad (L ++ [x]) ∧ Turn S w w' := by
  have HB := Lib.hid h
  obtain ⟨v, hb, hr, h1, h3⟩ := h
  have hb0 : Below w.heap.size w (w.alloc (.cells (shrC x) 53)) := (Below.refl _ _).alloc (Nat.le_refl _) _
  have s0 : (shrC x)[0]? = some (.int .i64 x.k) := rfl
  have ha := fun w => refall_any f w hf.1 hf.2
  have hhas := fun w5 (hR : Rs w5 S r f bad L) => refhasS_any S r f bad L x w5 hR hx hL hl
  rw [decide_eq_false hn] at hhas
  obtain ⟨m, hm, hm10⟩ := more_is f
  rw [hm] at ha
  have c0 := (hb.alloc (.cells (shrC x) 53)).cell 0
  have HA := Lib.hid (And.intro ha hhas)
  have HRW := Lib.hid hr
  obtain ⟨i0, hi, hz0, hz1, hz2⟩ := info_parts shrInfo
  unfold inN at hk
  rw [hm] at hk
  have hk := of_decide_eq_true hk
  obtain ⟨q, hq⟩ : ∃ q, q = x.k := ⟨_, rfl⟩
  rw [← hq] at s0 hk
  have hk0' : decide (q < 0) = false := by simp; omega
  have hk1' : decide ((m : Int) ≤ q) = false := by simp; omega
  clear hq hk ha hr hm hhas hn
  go_enter Tryd.func17, Tryd.ntmps17
  go_wp2
  go_quiet ((go_at_call 10; exact quiet_left (HA.out.1 _)))
  go_wp2_with (first
    | (refine wpList_row_at rfl _ _ rfl w.heap.size rfl _ _ _ _ (Blk.drewN (Blk.new w 53 (shrC x)) _) Tryd.underlying53 rfl (by kernel_rfl) ?_)
    | (go_at_call 35; refine (HA.out.2 _ (HB.out.below (below_drewN hb0 _))).mono ?_; rintro e w5 ⟨rfl, hb5⟩))
  have hb05 : Below w.heap.size w w5 := (below_drewN hb0 _).trans (hb5.mono hb0.size)
  have hx5 : Blk w5 w.heap.size 53 (shrC x) := (Blk.drewN (Blk.new w 53 (shrC x)) _).below hb5 (by simp)
  have hb5' : Blk w5 r 69 #[.int .i64 f, .int .u32 bad, v] := hb.below hb05 hb.lt
  have hr5 : w5.ownsRow 0 53 11 v L.length (shrs L) := (Turn.of_keep (S := fun _ => False) hb05).row HRW.out (by simp)
  obtain ⟨A5, c5, rfl, hc5, hrd5⟩ := row_reads hr5
  have hlt5 : w.heap.size < w5.heap.size := hx5.lt
  have hmL : L.length < L.length + 1 := by omega
  clear hb5 c0 hb
  refine wp_region_K (holdA r w.heap.size x (.slice A5 L.length c5)) [0, 2, 3, 4, 5, 7] (by kernel_rfl) ?_
  refine' wpK_reads (f := 7) (n := 34) _ (by kernel_rfl) (fun _ x _ _ _ h => by cases x <;> exact h) (⟨hb5'.cell 2, hx5⟩ : holdA r w.heap.size x (.slice A5 L.length c5) w5.drew) [0, 2, 3, 4, 5, 7] _ _ (by kernel_rfl) (by kernel_rfl) (by kernel_rfl) (by rfl) (fun W hW => ?hr1) ?hk1
  case hr1 =>
    obtain ⟨q2, qb⟩ := hW
    conv => arg 5; simp [pick]
    repeat (first | still_step | (refine wpStill_load_row rfl _ _ rfl _ rfl _ _ _ _ qb Tryd.underlying53 rfl (by kernel_rfl) ?_))
    refine wpStill_nil ?_
    rfl
  obtain ⟨w6, hw6⟩ : ∃ w6, w6 = w5.drew := ⟨_, rfl⟩
  have hb6 : Blk w6 r 69 #[.int .i64 f, .int .u32 bad, .slice A5 L.length c5] := by rw [hw6]; exact hb5'
  have hx6 : Blk w6 w.heap.size 53 (shrC x) := by rw [hw6]; exact hx5
  have hrd6 : Reads w6 w6.heap.size 11 A5 L.length (shrs L) := by rw [hw6]; exact hrd5
  have hlt6 : w.heap.size < w6.heap.size := hx6.lt
  have ht6 : Turn S w w6 := by rw [hw6]; exact (Turn.of_keep hb05).drew
  rw [← hw6]
  clear hb5' hx5 hrd5 hw6 hlt5 hr5
  refine wpK_two 1 8 (by kernel_rfl) rfl rfl ?_ ?_
  · refine wpList_buildSlice rfl _ _ _ rfl #[] rfl (slice_none w6) ?_
    go_wp2
    refine stepQ.mk ⟨fun _ => ⟨(hb6.alloc _).cell 2, hx6.alloc _⟩, ?_⟩
    obtain ⟨p1, hp1⟩ : ∃ p1, p1 = w6.alloc (.cells #[] 53) := ⟨_, rfl⟩
    have hbp1 : Blk p1 r 69 #[.int .i64 f, .int .u32 bad, .slice A5 L.length c5] := by rw [hp1]; exact hb6.alloc _
    have hxp1 : Blk p1 w.heap.size 53 (shrC x) := by rw [hp1]; exact hx6.alloc _
    have htp1 : Turn S w p1 := by rw [hp1]; exact ht6.alloc _
    have hsp1 : p1.heap.size = w6.heap.size + 1 := by rw [hp1]; simp
    have hrdp1 : Reads p1 p1.heap.size 11 A5 L.length (shrs L) := by rw [hp1]; exact (hrd6.alloc (Nat.le_refl _) _).more (by simp)
    have hop1 : p1.ownsRow 0 53 11 (.slice (some ⟨w6.heap.size, 0, none⟩) 0 0) 0 [] := by rw [hp1]; exact World.ownsRow_made _ _ 0 (Nat.zero_le _) (by decide) rfl
    rw [← hp1]
    clear hp1
    refine wpK_two 6 8 (by kernel_rfl) rfl rfl ?_ ?_
    · refine wpList_append_any _ rfl (.tmp 23) (.tmp 27) 37 rfl 0 53 i0 _ 11 88 Tryd.underlying37 hi hz0 hz1 hz2 rfl (by decide) (.slice (some ⟨w6.heap.size, 0, none⟩) 0 0) 0 [] rfl hop1 p1.heap.size A5 L.length c5 (shrs L) rfl hrdp1 (shrs_one L) (by unfold maxLen; omega) (by omega) (Nat.zero_le _) ?_
      intro vp2 p2 hop2 hgp2 hatp2
      simp only [Nat.zero_add, List.nil_append] at hop2
      go_wp2
      have hbp2 := hbp1.grown hgp2 (fun e => own_blk_ne hop1 hbp1 (by decide) e.symm)
      have hxp2 := hxp1.grown hgp2 (fun e => by simp [Value.ownBlock] at e; omega)
      have htp2 := htp1.grown hgp2 (fun i e => .inr (by simp [Value.ownBlock] at e; omega))
      have hvp2 : ∀ i, vp2.ownBlock = some i → w.heap.size < i := by
        intro i hi
        rcases hatp2 with e | e
        · rw [e] at hi; simp [Value.ownBlock] at hi; omega
        · rw [e] at hi; simp at hi; omega
      refine stepQ.mk ⟨fun _ => ⟨hbp2.cell 2, hxp2⟩, ?_⟩
      have hsp2 := hgp2.size
      refine wpK_step 8 (by kernel_rfl) rfl ?_
      refine wpList_buildSlice rfl _ _ _ rfl #[(0, .agg (shrC x))] rfl (slice_shr x p2) ?_
      go_wp2
      refine stepQ.mk ⟨fun _ => ⟨(hbp2.alloc _).cell 2, hxp2.alloc _⟩, ?_⟩
      obtain ⟨p3, hp3⟩ : ∃ p3, p3 = p2.alloc (.cells (shrC x) 53) := ⟨_, rfl⟩
      have hbp3 : Blk p3 r 69 #[.int .i64 f, .int .u32 bad, .slice A5 L.length c5] := by rw [hp3]; exact hbp2.alloc _
      have hxp3 : Blk p3 w.heap.size 53 (shrC x) := by rw [hp3]; exact hxp2.alloc _
      have htp3 : Turn S w p3 := by rw [hp3]; exact htp2.alloc _
      have hsp3 : p3.heap.size = p2.heap.size + 1 := by rw [hp3]; simp
      have hop3 := hop2.alloc (.cells (shrC x) 53)
      rw [← hp3] at hop3
      have hyp3 : Blk p3 p2.heap.size 53 (shrC x) := by rw [hp3]; exact Blk.new _ _ _
      rw [← hp3]
      clear hp3
      refine wpK_step 9 (by kernel_rfl) rfl ?_
      refine wpList_append_any _ rfl (.tmp 28) (.tmp 30) 37 rfl 0 53 i0 _ 11 88 Tryd.underlying37 hi hz0 hz1 hz2 rfl (by decide) vp2 L.length (shrs L) rfl hop3 (p2.heap.size + 1) (some ⟨p2.heap.size, 0, none⟩) 1 1 (shrL x) rfl (reads_blk hyp3) (one_shrL x) (by unfold maxLen; omega) (by omega) (Nat.zero_le _) ?_
      intro vp4 p4 hop4 hgp4 hatp4
      go_wp2
      have hbp4 := hbp3.grown hgp4 (fun e => own_blk_ne hop3 hbp3 (by decide) e.symm)
      have hxp4 := hxp3.grown hgp4 (fun e => by have := hvp2 _ e.symm; omega)
      have htp4 := htp3.grown hgp4 (fun i e => .inr (Nat.le_of_lt (hvp2 i e)))
      refine stepQ.mk ⟨fun _ => ⟨hbp4.cell 2, hxp4⟩, ?_⟩
      have hsp4 := hgp4.size
      have hvp4 : ∀ i, vp4.ownBlock = some i → w.heap.size ≤ i := by
        intro i hi
        rcases hatp4 with e | e
        · rw [e] at hi; exact Nat.le_of_lt (hvp2 i hi)
        · rw [e] at hi; simp at hi; have := htp4.size; have := htp3.size; omega
      obtain ⟨A9, c9, rfl, hc9, hrd9⟩ := row_reads hop4
      have c2 := hbp4.cell 2
      have f2 := hbp4.frozen 2
      refine wpK_seq [10, 11, 12] _ _ _ (by kernel_rfl) ?_
      conv => arg 4; simp [pick]
      go_wp2
      go_ret
      have hR := ((Turn.refl (fun k => k = r) p4).setCell (p := ⟨r, 2, none⟩) (.inl rfl) (.slice A9 (L.length + 1) c9)).row hop4 (fun k hk e => own_blk_ne hop4 hbp4 (by decide) (by rw [hk, e]))
      refine ⟨rfl, ⟨.slice A9 (L.length + 1) c9, hbp4.set_ 2 _, ?_, .inl h1, fun k hk => .inr ⟨hvp4 k hk, (hR.lt k hk).2⟩⟩, htp4.setCell (.inl h1) _⟩
      rw [List.length_append, shrs_snoc]; exact hR
    · refine wpList_buildSlice rfl _ _ _ rfl #[(0, .agg (shrC x))] rfl (slice_shr x p1) ?_
      go_wp2
      refine stepQ.mk ⟨fun _ => ⟨(hbp1.alloc _).cell 2, hxp1.alloc _⟩, ?_⟩
      obtain ⟨p2, hp2⟩ : ∃ p2, p2 = p1.alloc (.cells (shrC x) 53) := ⟨_, rfl⟩
      have hbp2 : Blk p2 r 69 #[.int .i64 f, .int .u32 bad, .slice A5 L.length c5] := by rw [hp2]; exact hbp1.alloc _
      have hxp2 : Blk p2 w.heap.size 53 (shrC x) := by rw [hp2]; exact hxp1.alloc _
      have htp2 : Turn S w p2 := by rw [hp2]; exact htp1.alloc _
      have hsp2 : p2.heap.size = p1.heap.size + 1 := by rw [hp2]; simp
      have hrdp2 : Reads p2 p2.heap.size 11 A5 L.length (shrs L) := by rw [hp2]; exact (hrdp1.alloc (Nat.le_refl _) _).more (by simp)
      have hop2 := hop1.alloc (.cells (shrC x) 53)
      rw [← hp2] at hop2
      have hyp2 : Blk p2 p1.heap.size 53 (shrC x) := by rw [hp2]; exact Blk.new _ _ _
      rw [← hp2]
      clear hp2
      refine wpK_step 6 (by kernel_rfl) rfl ?_
      refine wpList_append_any _ rfl (.tmp 23) (.tmp 27) 37 rfl 0 53 i0 _ 11 88 Tryd.underlying37 hi hz0 hz1 hz2 rfl (by decide) (.slice (some ⟨w6.heap.size, 0, none⟩) 0 0) 0 [] rfl hop2 p2.heap.size A5 L.length c5 (shrs L) rfl hrdp2 (shrs_one L) (by unfold maxLen; omega) (by omega) (Nat.zero_le _) ?_
      intro vp3 p3 hop3 hgp3 hatp3
      simp only [Nat.zero_add, List.nil_append] at hop3
      go_wp2
      have hbp3 := hbp2.grown hgp3 (fun e => own_blk_ne hop2 hbp2 (by decide) e.symm)
      have hxp3 := hxp2.grown hgp3 (fun e => by simp [Value.ownBlock] at e; omega)
      have htp3 := htp2.grown hgp3 (fun i e => .inr (by simp [Value.ownBlock] at e; omega))
      have hyp3 := hyp2.grown hgp3 (fun e => by simp [Value.ownBlock] at e; omega)
      have hvp3 : ∀ i, vp3.ownBlock = some i → w.heap.size < i := by
        intro i hi
        rcases hatp3 with e | e
        · rw [e] at hi; simp [Value.ownBlock] at hi; omega
        · rw [e] at hi; simp at hi; omega
      refine stepQ.mk ⟨fun _ => ⟨hbp3.cell 2, hxp3⟩, ?_⟩
      have hsp3 := hgp3.size
      refine wpK_step 9 (by kernel_rfl) rfl ?_
      refine wpList_append_any _ rfl (.tmp 28) (.tmp 30) 37 rfl 0 53 i0 _ 11 88 Tryd.underlying37 hi hz0 hz1 hz2 rfl (by decide) vp3 L.length (shrs L) rfl hop3 (p1.heap.size + 1) (some ⟨p1.heap.size, 0, none⟩) 1 1 (shrL x) rfl (reads_blk hyp3) (one_shrL x) (by unfold maxLen; omega) (by omega) (Nat.zero_le _) ?_
      intro vp4 p4 hop4 hgp4 hatp4
      go_wp2
      have hbp4 := hbp3.grown hgp4 (fun e => own_blk_ne hop3 hbp3 (by decide) e.symm)
      have hxp4 := hxp3.grown hgp4 (fun e => by have := hvp3 _ e.symm; omega)
      have htp4 := htp3.grown hgp4 (fun i e => .inr (Nat.le_of_lt (hvp3 i e)))
      refine stepQ.mk ⟨fun _ => ⟨hbp4.cell 2, hxp4⟩, ?_⟩
      have hsp4 := hgp4.size
      have hvp4 : ∀ i, vp4.ownBlock = some i → w.heap.size ≤ i := by
        intro i hi
        rcases hatp4 with e | e
        · rw [e] at hi; exact Nat.le_of_lt (hvp3 i hi)
        · rw [e] at hi; simp at hi; have := htp4.size; have := htp3.size; omega
      obtain ⟨A9, c9, rfl, hc9, hrd9⟩ := row_reads hop4
      have c2 := hbp4.cell 2
      have f2 := hbp4.frozen 2
      refine wpK_seq [10, 11, 12] _ _ _ (by kernel_rfl) ?_
      conv => arg 4; simp [pick]
      go_wp2
      go_ret
      have hR := ((Turn.refl (fun k => k = r) p4).setCell (p := ⟨r, 2, none⟩) (.inl rfl) (.slice A9 (L.length + 1) c9)).row hop4 (fun k hk e => own_blk_ne hop4 hbp4 (by decide) (by rw [hk, e]))
      refine ⟨rfl, ⟨.slice A9 (L.length + 1) c9, hbp4.set_ 2 _, ?_, .inl h1, fun k hk => .inr ⟨hvp4 k hk, (hR.lt k hk).2⟩⟩, htp4.setCell (.inl h1) _⟩
      rw [List.length_append, shrs_snoc]; exact hR
  · refine wpList_buildSlice rfl _ _ _ rfl #[(0, .agg (shrC x))] rfl (slice_shr x w6) ?_
    go_wp2
    refine stepQ.mk ⟨fun _ => ⟨(hb6.alloc _).cell 2, hx6.alloc _⟩, ?_⟩
    obtain ⟨q1, hq1⟩ : ∃ q1, q1 = w6.alloc (.cells (shrC x) 53) := ⟨_, rfl⟩
    have hbq1 : Blk q1 r 69 #[.int .i64 f, .int .u32 bad, .slice A5 L.length c5] := by rw [hq1]; exact hb6.alloc _
    have hxq1 : Blk q1 w.heap.size 53 (shrC x) := by rw [hq1]; exact hx6.alloc _
    have htq1 : Turn S w q1 := by rw [hq1]; exact ht6.alloc _
    have hsq1 : q1.heap.size = w6.heap.size + 1 := by rw [hq1]; simp
    have hrdq1 : Reads q1 q1.heap.size 11 A5 L.length (shrs L) := by rw [hq1]; exact (hrd6.alloc (Nat.le_refl _) _).more (by simp)
    have hyq1 : Blk q1 w6.heap.size 53 (shrC x) := by rw [hq1]; exact Blk.new _ _ _
    rw [← hq1]
    clear hq1
    refine wpK_step 1 (by kernel_rfl) rfl ?_
    refine wpList_buildSlice rfl _ _ _ rfl #[] rfl (slice_none q1) ?_
    go_wp2
    refine stepQ.mk ⟨fun _ => ⟨(hbq1.alloc _).cell 2, hxq1.alloc _⟩, ?_⟩
    obtain ⟨q2, hq2⟩ : ∃ q2, q2 = q1.alloc (.cells #[] 53) := ⟨_, rfl⟩
    have hbq2 : Blk q2 r 69 #[.int .i64 f, .int .u32 bad, .slice A5 L.length c5] := by rw [hq2]; exact hbq1.alloc _
    have hxq2 : Blk q2 w.heap.size 53 (shrC x) := by rw [hq2]; exact hxq1.alloc _
    have htq2 : Turn S w q2 := by rw [hq2]; exact htq1.alloc _
    have hsq2 : q2.heap.size = q1.heap.size + 1 := by rw [hq2]; simp
    have hrdq2 : Reads q2 q2.heap.size 11 A5 L.length (shrs L) := by rw [hq2]; exact (hrdq1.alloc (Nat.le_refl _) _).more (by simp)
    have hyq2 : Blk q2 w6.heap.size 53 (shrC x) := by rw [hq2]; exact hyq1.alloc _
    have hoq2 : q2.ownsRow 0 53 11 (.slice (some ⟨q1.heap.size, 0, none⟩) 0 0) 0 [] := by rw [hq2]; exact World.ownsRow_made _ _ 0 (Nat.zero_le _) (by decide) rfl
    rw [← hq2]
    clear hq2
    refine wpK_step 6 (by kernel_rfl) rfl ?_
    refine wpList_append_any _ rfl (.tmp 23) (.tmp 27) 37 rfl 0 53 i0 _ 11 88 Tryd.underlying37 hi hz0 hz1 hz2 rfl (by decide) (.slice (some ⟨q1.heap.size, 0, none⟩) 0 0) 0 [] rfl hoq2 q2.heap.size A5 L.length c5 (shrs L) rfl hrdq2 (shrs_one L) (by unfold maxLen; omega) (by omega) (Nat.zero_le _) ?_
    intro vq3 q3 hoq3 hgq3 hatq3
    simp only [Nat.zero_add, List.nil_append] at hoq3
    go_wp2
    have hbq3 := hbq2.grown hgq3 (fun e => own_blk_ne hoq2 hbq2 (by decide) e.symm)
    have hxq3 := hxq2.grown hgq3 (fun e => by simp [Value.ownBlock] at e; omega)
    have htq3 := htq2.grown hgq3 (fun i e => .inr (by simp [Value.ownBlock] at e; omega))
    have hyq3 := hyq2.grown hgq3 (fun e => by simp [Value.ownBlock] at e; omega)
    have hvq3 : ∀ i, vq3.ownBlock = some i → w.heap.size < i := by
      intro i hi
      rcases hatq3 with e | e
      · rw [e] at hi; simp [Value.ownBlock] at hi; omega
      · rw [e] at hi; simp at hi; omega
    refine stepQ.mk ⟨fun _ => ⟨hbq3.cell 2, hxq3⟩, ?_⟩
    have hsq3 := hgq3.size
    refine wpK_step 9 (by kernel_rfl) rfl ?_
    refine wpList_append_any _ rfl (.tmp 28) (.tmp 30) 37 rfl 0 53 i0 _ 11 88 Tryd.underlying37 hi hz0 hz1 hz2 rfl (by decide) vq3 L.length (shrs L) rfl hoq3 (w6.heap.size + 1) (some ⟨w6.heap.size, 0, none⟩) 1 1 (shrL x) rfl (reads_blk hyq3) (one_shrL x) (by unfold maxLen; omega) (by omega) (Nat.zero_le _) ?_
    intro vq4 q4 hoq4 hgq4 hatq4
    go_wp2
    have hbq4 := hbq3.grown hgq4 (fun e => own_blk_ne hoq3 hbq3 (by decide) e.symm)
    have hxq4 := hxq3.grown hgq4 (fun e => by have := hvq3 _ e.symm; omega)
    have htq4 := htq3.grown hgq4 (fun i e => .inr (Nat.le_of_lt (hvq3 i e)))
    refine stepQ.mk ⟨fun _ => ⟨hbq4.cell 2, hxq4⟩, ?_⟩
    have hsq4 := hgq4.size
    have hvq4 : ∀ i, vq4.ownBlock = some i → w.heap.size ≤ i := by
      intro i hi
      rcases hatq4 with e | e
      · rw [e] at hi; exact Nat.le_of_lt (hvq3 i hi)
      · rw [e] at hi; simp at hi; have := htq4.size; have := htq3.size; omega
    obtain ⟨A9, c9, rfl, hc9, hrd9⟩ := row_reads hoq4
    have c2 := hbq4.cell 2
    have f2 := hbq4.frozen 2
    refine wpK_seq [10, 11, 12] _ _ _ (by kernel_rfl) ?_
    conv => arg 4; simp [pick]
    go_wp2
    go_ret
    have hR := ((Turn.refl (fun k => k = r) q4).setCell (p := ⟨r, 2, none⟩) (.inl rfl) (.slice A9 (L.length + 1) c9)).row hoq4 (fun k hk e => own_blk_ne hoq4 hbq4 (by decide) (by rw [hk, e]))
    refine ⟨rfl, ⟨.slice A9 (L.length + 1) c9, hbq4.set_ 2 _, ?_, .inl h1, fun k hk => .inr ⟨hvq4 k hk, (hR.lt k hk).2⟩⟩, htq4.setCell (.inl h1) _⟩
    rw [List.length_append, shrs_snoc]; exact hR
end Go.Proofs.YtjkfogjhakcnfaaDoor
