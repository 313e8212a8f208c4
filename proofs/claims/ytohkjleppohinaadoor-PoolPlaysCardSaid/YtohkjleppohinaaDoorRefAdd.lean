/-
  The document's pool: one more waits.
-/
import Derived.Test.YtohkjleppohinaaDoorRefPast
set_option linter.unusedSimpArgs false
set_option linter.unusedVariables false
set_option maxRecDepth 10000
namespace Go.Proofs.YtohkjleppohinaaDoor
open Go.RowKit Go.Lib
open L3 (Blk Reads block_of_add add_of_add)
open L6 (Turn moreB fresh From In)

theorem slice_no (w : World) : (Instr.buildSlice 28 0 #[]).run Tryd.prog w = .ok (.slice (some ⟨w.heap.size, 0, none⟩) 0 0) (w.alloc (.cells #[] 35)) := by kernel_rfl
/-- What is held: the pool's block, the transaction's, the answer's. -/
structure RaAt (w : World) (most : Int) (A : Option Addr) (n c : Nat) (t : Txx) (X : World) : Prop where
  pl : Blk X w.heap.size 30 (plC most A n c)
  tx : Blk X (w.heap.size + 1) 35 (txC t)
  re : Blk X (w.heap.size + 2) 30 (plC 0 none 0 0)
  bw : Below w.heap.size w X
theorem RaAt.below {w X Y : World} {most : Int} {A : Option Addr} {n c : Nat} {t : Txx} (h : RaAt w most A n c t X) (hb : Below X.heap.size X Y) : RaAt w most A n c t Y := ⟨h.pl.below hb h.pl.lt, h.tx.below hb h.tx.lt, h.re.below hb h.re.lt, nxt h.bw hb⟩
theorem RaAt.alloc {w X : World} {most : Int} {A : Option Addr} {n c : Nat} {t : Txx} (h : RaAt w most A n c t X) (o : Obj) : RaAt w most A n c t (X.alloc o) := h.below ((Below.refl _ _).alloc (Nat.le_refl _) o)
theorem RaAt.grown {w X Y : World} {most : Int} {A : Option Addr} {n c : Nat} {t : Txx} (h : RaAt w most A n c t X) {row : Option Nat} (hg : X.grownBy Y row) (hr : ∀ g, row = some g → w.heap.size + 3 ≤ g) : RaAt w most A n c t Y := by
  have ht : Turn (fun k => w.heap.size + 3 ≤ k) X Y := L6.Turn.of_grown hg hr
  exact ⟨ht.blk h.pl (by omega), ht.blk h.tx (by omega), ht.blk h.re (by omega), h.bw.trans (ht.below (B := w.heap.size) (fun i hi => by omega) h.bw.size)⟩
theorem RaAt.size {w X : World} {most : Int} {A : Option Addr} {n c : Nat} {t : Txx} (h : RaAt w most A n c t X) : w.heap.size + 3 ≤ X.heap.size := by have := h.re.lt; omega
theorem RaAt.start (w : World) (most : Int) (A : Option Addr) (n c : Nat) (t : Txx) : RaAt w most A n c t (((w.alloc (.cells (plC most A n c) 30)).alloc (.cells (txC t) 35)).alloc (.cells (plC 0 none 0 0) 30)) := by
  have k2 := Blk.new (w.alloc (.cells (plC most A n c) 30)) 35 (txC t)
  have k3 := Blk.new ((w.alloc (.cells (plC most A n c) 30)).alloc (.cells (txC t) 35)) 30 (plC 0 none 0 0)
  exact ⟨((Blk.new _ _ _).alloc _).alloc _, by simpa using k2.alloc _, by simpa using k3, (((Below.refl _ _).alloc (Nat.le_refl _) _).alloc (by simp) _).alloc (by simp; omega) _⟩
/-- What Add tells and leaves. -/
def refaddPost (most : Int) (A : Option Addr) (L : List Txx) (t : Txx) (w : World) (e : Ending) (w' : World) : Prop :=
  ∃ A' c', e = .returned (.tuple #[.agg (plC most A' (addL most L t).length c'), .int .i64 (addE most L t)]) ∧ Rd txL 7 w' A' (addL most L t) ∧ (∀ ad, A' = some ad → A = some ad ∨ (w.heap.size ≤ ad.block ∧ ad.block < w'.heap.size)) ∧ Below w.heap.size w w'
theorem refadd_no {most : Int} {A : Option Addr} {n c : Nat} {L : List Txx} {t : Txx} {w X : World} {k : Int} (hk : addE most L t = k) (h0 : k ≠ 0) (hn : n = L.length) (hr : Rd txL 7 w A L) (h : RaAt w most A n c t X) :
    refaddPost most A L t w (.returned (.tuple #[.agg (plC most A n c), .int .i64 k])) (X.setRow (w.heap.size + 2) (plC most A n c)) := by
  have hb : Below w.heap.size w (X.setRow (w.heap.size + 2) (plC most A n c)) := below_setRow h.bw (by omega)
  have e : addL most L t = L := by unfold addL; rw [hk, if_neg h0]
  unfold refaddPost
  rw [e, hk, hn]
  exact ⟨A, c, rfl, hr.below (hn ▸ hb), fun ad e => .inl e, hn ▸ hb⟩
theorem refadd_yes {most : Int} {A A2 : Option Addr} {n c c2 : Nat} {L : List Txx} {t : Txx} {w X : World} (hk : addE most L t = 0) (h : RaAt w most A n c t X)
    (hr : X.ownsRow (w.heap.size + 3) 35 7 (.slice A2 (L ++ [t]).length c2) (L ++ [t]).length ((L ++ [t]).flatMap txL)) :
    refaddPost most A L t w (.returned (.tuple #[.agg (plC most A2 (L ++ [t]).length c2), .int .i64 0])) (X.setRow (w.heap.size + 2) (plC most A2 (L ++ [t]).length c2)) := by
  have e : addL most L t = L ++ [t] := by unfold addL; rw [hk, if_pos rfl]
  obtain ⟨A3, c3, hv, hrd, hA⟩ := Rd.of_row (f := txL) (k := 7) (fun _ => rfl) hr
  injection hv with h1 _ h3
  subst h1 h3
  have ht := turn_row X (w.heap.size + 2) (plC most A2 (L ++ [t]).length c2)
  unfold refaddPost
  rw [e, hk]
  exact ⟨A2, c2, rfl, hrd.kept ht (fun ad e h2 => by have := (hA ad e).1; omega), fun ad e => .inr ⟨by have := (hA ad e).1; omega, Nat.lt_of_lt_of_le (hA ad e).2 ht.size⟩, below_setRow h.bw (by omega)⟩
set_option maxHeartbeats 4000000 in
set_option maxRecDepth 100000 in
theorem refadd_any (most : Int) (A : Option Addr) (c : Nat) (L : List Txx) (t : Txx) (w : World) (hl : ∀ t ∈ L, t.wf 1000) (ht : t.wf 1000) (hr : Rd txL 7 w A L) (hn : L.length ≤ 1000000) :
    Calls Tryd.prog 9 #[.agg (plC most A L.length c), .agg (txC t)] w (refaddPost most A L t w) := by
  obtain ⟨i0, hi, hz0, hz1, hz2⟩ := tx_parts
  obtain ⟨n, hn2⟩ : ∃ n, n = L.length := ⟨_, rfl⟩
  have HCK := Lib.hid (fun W => refcheck_any t W (ht.le (by omega)))
  have HHAS := Lib.hid (fun W (hb : Below w.heap.size w W) => refhas_any A c L t W hl ht (hr.below hb) hn)
  have HRD := Lib.hid hr
  have hS0 := RaAt.start w most A n c t
  rw [← hn2] at HHAS hn ⊢
  have HN := Lib.hid hn2
  obtain ⟨W0, hW0⟩ : ∃ W0, W0 = ((w.alloc (.cells (plC most A n c) 30)).alloc (.cells (txC t) 35)).alloc (.cells (plC 0 none 0 0) 30) := ⟨_, rfl⟩
  rw [← hW0] at hS0
  have hE : ((w.alloc (.cells (plC most A n c) 30)).alloc (.cells (txC t) 35)).alloc (.cells #[.int .i64 0, .slice none 0 0] 30) = W0 := hW0.symm
  clear hn2 hr hl ht hW0
  go_enter Tryd.func9, Tryd.ntmps9
  go_upto_region 1 with fail
  clear hE
  have htx := hS0.tx
  rcases Bool.eq_false_or_eq_true (right t) with hrt | hrt
  case inr =>
    rw [hrt] at HCK
    have HE := Lib.hid (show addE most L t = 80 by unfold addE; rw [hrt]; rfl)
    clear hrt
    go_upto_region 2 with (first
      | (refine wpList_row_at rfl _ _ rfl (w.heap.size + 1) rfl _ _ _ _ htx Tryd.underlying35 rfl (by kernel_rfl) ?_)
      | (go_at_call 22; refine (HCK.out _).mono ?_; unfold gives; rintro e w1 ⟨rfl, hb1⟩)
      | go_in)
    have hS1 := hS0.below hb1
    have hp1 := hS1.pl
    have hr1 := hS1.re
    clear htx
    go_wp2_with (first
      | (refine wpList_row_at rfl _ _ rfl w.heap.size rfl _ _ _ _ hp1 Tryd.underlying30 rfl plInfo ?_)
      | (refine wpList_store_row rfl _ _ _ rfl (w.heap.size + 2) (plC most A n c) rfl rfl _ _ hr1 plInfo rfl (plC_ones _ _ _ _) ?_)
      | go_in)
    (try simp only [Exit.inBlock, Exit.then])
    refine bodyPost_ret (results_row2 rfl _ _ (w.heap.size + 2) rfl _ rfl _ (plC most A n c) _ _ (blk_setRow hr1) Tryd.underlying30 rfl plInfo) rfl ?_
    exact refadd_no HE.out (by decide) HN.out HRD.out hS1
  case inl =>
    rw [hrt] at HCK
    have HRT := Lib.hid hrt
    clear hrt
    go_upto_region 3 with (first
      | (refine wpList_row_at rfl _ _ rfl (w.heap.size + 1) rfl _ _ _ _ htx Tryd.underlying35 rfl (by kernel_rfl) ?_)
      | (go_at_call 22; refine (HCK.out _).mono ?_; unfold gives; rintro e w1 ⟨rfl, hb1⟩)
      | go_in)
    have hS1 := hS0.below hb1
    have ht1 := hS1.tx
    have q1 : w1.cell? ⟨w.heap.size, 1, none⟩ = some (.slice A n c) := hS1.pl.cell 1
    have HH := Lib.hid (HHAS.out w1 hS1.bw)
    obtain ⟨b, hb⟩ : ∃ b, b = hasX L t := ⟨_, rfl⟩
    rw [← hb] at HH
    have HB := Lib.hid hb
    clear htx hS0 hb1 hb
    cases b with
    | true =>
      have HE := Lib.hid (show addE most L t = 100 by unfold addE; rw [HRT.out, ← HB.out]; rfl)
      go_upto_region 4 with (first
        | (refine wpList_row_at rfl _ _ rfl (w.heap.size + 1) rfl _ _ _ _ ht1 Tryd.underlying35 rfl (by kernel_rfl) ?_)
        | (go_at_call 20; refine HH.out.mono ?_; unfold gives; rintro e w2 ⟨rfl, hb2⟩)
        | go_in)
      have hS2 := hS1.below hb2
      have hp2 := hS2.pl
      have hr2 := hS2.re
      clear ht1 q1
      go_wp2_with (first
        | (refine wpList_row_at rfl _ _ rfl w.heap.size rfl _ _ _ _ hp2 Tryd.underlying30 rfl plInfo ?_)
        | (refine wpList_store_row rfl _ _ _ rfl (w.heap.size + 2) (plC most A n c) rfl rfl _ _ hr2 plInfo rfl (plC_ones _ _ _ _) ?_)
        | go_in)
      (try simp only [Exit.inBlock, Exit.then])
      refine bodyPost_ret (results_row2 rfl _ _ (w.heap.size + 2) rfl _ rfl _ (plC most A n c) _ _ (blk_setRow hr2) Tryd.underlying30 rfl plInfo) rfl ?_
      exact refadd_no HE.out (by decide) HN.out HRD.out hS2
    | false =>
      have HE := Lib.hid (show addE most L t = if most ≤ (n : Int) then 101 else 0 by rw [HN.out]; exact addE_is HRT.out HB.out.symm)
      go_upto_region 5 with (first
        | (refine wpList_row_at rfl _ _ rfl (w.heap.size + 1) rfl _ _ _ _ ht1 Tryd.underlying35 rfl (by kernel_rfl) ?_)
        | (go_at_call 20; refine HH.out.mono ?_; unfold gives; rintro e w2 ⟨rfl, hb2⟩)
        | go_in)
      have hS2 := hS1.below hb2
      have p0 : w2.cell? ⟨w.heap.size, 0, none⟩ = some (.int .i64 most) := hS2.pl.cell 0
      have p1 : w2.cell? ⟨w.heap.size, 1, none⟩ = some (.slice A n c) := hS2.pl.cell 1
      clear ht1 q1 hS1 hb2
      by_cases hm : most ≤ (n : Int)
      · have HE2 := Lib.hid (HE.out.trans (if_pos hm))
        clear HE
        go_upto_region 6 with fail
        have hp2 := hS2.pl
        have hr2 := hS2.re
        clear p0 p1
        go_wp2_with (first
          | (refine wpList_row_at rfl _ _ rfl w.heap.size rfl _ _ _ _ hp2 Tryd.underlying30 rfl plInfo ?_)
          | (refine wpList_store_row rfl _ _ _ rfl (w.heap.size + 2) (plC most A n c) rfl rfl _ _ hr2 plInfo rfl (plC_ones _ _ _ _) ?_)
          | go_in)
        (try simp only [Exit.inBlock, Exit.then])
        refine bodyPost_ret (results_row2 rfl _ _ (w.heap.size + 2) rfl _ rfl _ (plC most A n c) _ _ (blk_setRow hr2) Tryd.underlying30 rfl plInfo) rfl ?_
        exact refadd_no HE2.out (by decide) HN.out HRD.out hS2
      · have HE2 := Lib.hid (HE.out.trans (if_neg hm))
        clear HE
        go_upto_region 7 with fail
        clear p0 p1
        have hone : ∀ u ∈ L.flatMap txL, u.oneCell' = true := by intro u hu; obtain ⟨x, _, hx⟩ := List.mem_flatMap.1 hu; exact one_txL x u hx
        have HONE := Lib.hid hone
        clear hone
        have hS : RaAt w most A n c t w2.drew := ⟨hS2.pl, hS2.tx, hS2.re, L6.below_drew hS2.bw⟩
        refine wp_region_K (RaAt w most A n c t) [0, 1, 3, 4, 6] (by kernel_rfl) ?_
        refine wpK_quiet (f := 7) (by kernel_rfl) (fun _ x _ _ _ h => by cases x <;> exact h) hS [0, 1, 3, 4, 6] _ _ (by kernel_rfl) (by kernel_rfl) (by kernel_rfl) ?_
        have ne : Nonempty (WorldIn (RaAt w most A n c t)) := ⟨⟨_, hS⟩⟩
        have p0 : ∀ y : WorldIn (RaAt w most A n c t), y.w.cell? ⟨w.heap.size, 0, none⟩ = some (.int .i64 most) := fun y => y.h.pl.cell 0
        have p1 : ∀ y : WorldIn (RaAt w most A n c t), y.w.cell? ⟨w.heap.size, 1, none⟩ = some (.slice A n c) := fun y => y.h.pl.cell 1
        conv => arg 5; simp [pick]
        iterate 4 go_big_quiet_step (fail)
        refine wpQuiet_row rfl _ _ rfl (w.heap.size + 1) rfl _ _ _ _ (fun y => y.h.tx) Tryd.underlying35 rfl (by kernel_rfl) ?_
        conv => arg 6; simp only [Act.put, List.setIfInBounds_toArray, List.set_cons_zero, List.set_cons_succ]
        refine wpQuiet_nil ?_
        clear p0 p1
        obtain ⟨w3, hw3⟩ : ∃ w3, w3 = w2.drew := ⟨_, rfl⟩
        rw [← hw3] at hS
        rw [← hw3]
        clear hw3 hS2
        refine wpK_two 2 7 (by kernel_rfl) rfl rfl ?_ ?_
        · refine wpList_buildSlice rfl _ _ _ rfl #[] rfl (slice_no w3) ?_
          go_wp2
          have hS' := hS.alloc (.cells #[] 35)
          have hza : (w3.alloc (.cells #[] 35)).ownsRow (w.heap.size + 3) 35 7 (.slice (some ⟨w3.heap.size, 0, none⟩) 0 0) 0 [] := ⟨rfl, .inr ⟨w3.heap.size, 0, #[], rfl, hS.size, Blk.new _ _ _, Nat.le_refl _, Nat.zero_le _, rfl, rfl⟩⟩
          refine stepQ.mk ⟨fun _ => hS', ?_⟩
          have hwa : Below w3.heap.size w3 (w3.alloc (.cells #[] 35)) := (Below.refl _ _).alloc (Nat.le_refl _) _
          obtain ⟨wa, hwa2⟩ : ∃ wa, wa = w3.alloc (.cells #[] 35) := ⟨_, rfl⟩
          obtain ⟨ga, hga⟩ : ∃ ga, ga = w3.heap.size := ⟨_, rfl⟩
          rw [← hwa2] at hS' hza
          rw [← hga] at hza
          rw [← hwa2, ← hga]
          clear hwa hwa2 hga
          refine wpK_two 5 7 (by kernel_rfl) rfl rfl ?_ ?_
          · refine L3.wpList_append_any _ rfl (.tmp 24) (.tmp 26) 28 rfl (w.heap.size + 3) 35 i0 _ 7 88 Tryd.underlying28 hi hz0 hz1 hz2 rfl (by decide) (.slice (some ⟨ga, 0, none⟩) 0 0) 0 [] rfl hza (wa).heap.size A n c (L.flatMap txL) rfl (by have := (HRD.out.below hS'.bw).reads (f := txL) (k := 7) (fun _ => rfl); rw [← HN.out] at this; exact this) HONE.out (by unfold maxLen; omega) (by omega) hS'.size ?_
            intro v5 w5 hr5 hg5 hat5
            simp only [Nat.zero_add, List.nil_append] at hr5
            obtain ⟨A5, c5, rfl, _⟩ := L6.row_reads hr5
            have T5 := hS'.grown hg5 (fun g e => (hza.lt g e).1)
            have hr5' : w5.ownsRow (w.heap.size + 3) 35 7 (.slice A5 n c5) n (L.flatMap txL) := hr5
            go_wp2
            refine stepQ.mk ⟨fun _ => T5, ?_⟩
            refine wpK_step 7 (by kernel_rfl) rfl ?_
            refine wpList_buildSlice rfl _ _ _ rfl #[(0, .agg (txC t))] rfl (slice_tx t (w5)) ?_
            go_wp2
            have T5x := T5.alloc (.cells (txC t) 35)
            refine stepQ.mk ⟨fun _ => T5x, ?_⟩
            have hx5 : Blk (w5.alloc (.cells (txC t) 35)) w5.heap.size 35 (txC t) := Blk.new _ _ _
            have hrx := hr5'.alloc (.cells (txC t) 35)
            refine wpK_step 8 (by kernel_rfl) rfl ?_
            refine L3.wpList_append_any _ rfl (.tmp 27) (.tmp 29) 28 rfl (w.heap.size + 3) 35 i0 _ 7 88 Tryd.underlying28 hi hz0 hz1 hz2 rfl (by decide) (.slice A5 n c5) n (L.flatMap txL) rfl hrx (w5.heap.size + 1) (some ⟨w5.heap.size, 0, none⟩) 1 1 (txL t) rfl (reads_one (k := 7) rfl hx5) (one_txL t) (by unfold maxLen; omega) (by omega) T5x.size ?_
            intro v9 w9 hr9 hg9 hat9
            have T9 := T5x.grown hg9 (fun g e => (hrx.lt g e).1)
            obtain ⟨A9, c9, rfl, _⟩ := L6.row_reads hr9
            have hr10 : w9.ownsRow (w.heap.size + 3) 35 7 (.slice A9 (L ++ [t]).length c9) (L ++ [t]).length ((L ++ [t]).flatMap txL) := by
              rw [List.length_append, List.flatMap_append, List.length_singleton, ← HN.out]
              simpa using hr9
            have hm9 : n + 1 = (L ++ [t]).length := by rw [List.length_append, List.length_singleton, ← HN.out]
            have HM9 := Lib.hid hm9
            clear hm9
            go_wp2
            refine stepQ.mk ⟨fun _ => T9, ?_⟩
            refine wpK_step 9 (by kernel_rfl) rfl ?_
            refine wpList_build rfl _ _ rfl #[(0, .int .i64 most), (1, .slice A9 (n + 1) c9)] rfl (build_pl most A9 (n + 1) c9 w9) ?_
            go_wp2
            refine stepQ.mk ⟨fun _ => T9, ?_⟩
            refine wpK_seq [10, 11] _ _ _ (by kernel_rfl) ?_
            conv => arg 4; simp [pick]
            have hre := T9.re
            go_wp2_with (first
              | (refine wpList_store_row rfl _ _ _ rfl (w.heap.size + 2) (plC most A9 (n + 1) c9) rfl rfl _ _ hre plInfo rfl (plC_ones _ _ _ _) ?_)
              | go_in)
            (try simp only [Exit.inBlock, Exit.then])
            refine bodyPost_ret (results_row2 rfl _ _ (w.heap.size + 2) rfl _ rfl _ (plC most A9 (n + 1) c9) _ _ (blk_setRow hre) Tryd.underlying30 rfl plInfo) rfl ?_
            have := refadd_yes HE2.out T9 hr10
            rw [← HM9.out] at this
            exact this
          · refine wpList_buildSlice rfl _ _ _ rfl #[(0, .agg (txC t))] rfl (slice_tx t (wa)) ?_
            go_wp2
            have hSx := hS'.alloc (.cells (txC t) 35)
            refine stepQ.mk ⟨fun _ => hSx, ?_⟩
            have hxa : Blk (wa.alloc (.cells (txC t) 35)) wa.heap.size 35 (txC t) := Blk.new _ _ _
            have hzx := hza.alloc (.cells (txC t) 35)
            refine wpK_step 5 (by kernel_rfl) rfl ?_
            refine L3.wpList_append_any _ rfl (.tmp 24) (.tmp 26) 28 rfl (w.heap.size + 3) 35 i0 _ 7 88 Tryd.underlying28 hi hz0 hz1 hz2 rfl (by decide) (.slice (some ⟨ga, 0, none⟩) 0 0) 0 [] rfl hzx (wa.alloc (.cells (txC t) 35)).heap.size A n c (L.flatMap txL) rfl (by have := (HRD.out.below hSx.bw).reads (f := txL) (k := 7) (fun _ => rfl); rw [← HN.out] at this; exact this) HONE.out (by unfold maxLen; omega) (by omega) hSx.size ?_
            intro v5 w5 hr5 hg5 hat5
            simp only [Nat.zero_add, List.nil_append] at hr5
            obtain ⟨A5, c5, rfl, _⟩ := L6.row_reads hr5
            have T5 := hSx.grown hg5 (fun g e => (hzx.lt g e).1)
            have hr5' : w5.ownsRow (w.heap.size + 3) 35 7 (.slice A5 n c5) n (L.flatMap txL) := hr5
            go_wp2
            refine stepQ.mk ⟨fun _ => T5, ?_⟩
            have hx5 : Blk w5 wa.heap.size 35 (txC t) := hxa.grown hg5 (fun e => by have := (hza.lt ga rfl).2; simp only [Value.ownBlock, Option.some.injEq] at e; omega)
            refine wpK_step 8 (by kernel_rfl) rfl ?_
            refine L3.wpList_append_any _ rfl (.tmp 27) (.tmp 29) 28 rfl (w.heap.size + 3) 35 i0 _ 7 88 Tryd.underlying28 hi hz0 hz1 hz2 rfl (by decide) (.slice A5 n c5) n (L.flatMap txL) rfl hr5' (wa.heap.size + 1) (some ⟨wa.heap.size, 0, none⟩) 1 1 (txL t) rfl (reads_one (k := 7) rfl hx5) (one_txL t) (by unfold maxLen; omega) (by omega) T5.size ?_
            intro v9 w9 hr9 hg9 hat9
            have T9 := T5.grown hg9 (fun g e => (hr5'.lt g e).1)
            obtain ⟨A9, c9, rfl, _⟩ := L6.row_reads hr9
            have hr10 : w9.ownsRow (w.heap.size + 3) 35 7 (.slice A9 (L ++ [t]).length c9) (L ++ [t]).length ((L ++ [t]).flatMap txL) := by
              rw [List.length_append, List.flatMap_append, List.length_singleton, ← HN.out]
              simpa using hr9
            have hm9 : n + 1 = (L ++ [t]).length := by rw [List.length_append, List.length_singleton, ← HN.out]
            have HM9 := Lib.hid hm9
            clear hm9
            go_wp2
            refine stepQ.mk ⟨fun _ => T9, ?_⟩
            refine wpK_step 9 (by kernel_rfl) rfl ?_
            refine wpList_build rfl _ _ rfl #[(0, .int .i64 most), (1, .slice A9 (n + 1) c9)] rfl (build_pl most A9 (n + 1) c9 w9) ?_
            go_wp2
            refine stepQ.mk ⟨fun _ => T9, ?_⟩
            refine wpK_seq [10, 11] _ _ _ (by kernel_rfl) ?_
            conv => arg 4; simp [pick]
            have hre := T9.re
            go_wp2_with (first
              | (refine wpList_store_row rfl _ _ _ rfl (w.heap.size + 2) (plC most A9 (n + 1) c9) rfl rfl _ _ hre plInfo rfl (plC_ones _ _ _ _) ?_)
              | go_in)
            (try simp only [Exit.inBlock, Exit.then])
            refine bodyPost_ret (results_row2 rfl _ _ (w.heap.size + 2) rfl _ rfl _ (plC most A9 (n + 1) c9) _ _ (blk_setRow hre) Tryd.underlying30 rfl plInfo) rfl ?_
            have := refadd_yes HE2.out T9 hr10
            rw [← HM9.out] at this
            exact this
        · refine wpList_buildSlice rfl _ _ _ rfl #[(0, .agg (txC t))] rfl (slice_tx t (w3)) ?_
          go_wp2
          have hSx := hS.alloc (.cells (txC t) 35)
          refine stepQ.mk ⟨fun _ => hSx, ?_⟩
          have hxa : Blk (w3.alloc (.cells (txC t) 35)) w3.heap.size 35 (txC t) := Blk.new _ _ _
          obtain ⟨wa, hwa2⟩ : ∃ wa, wa = w3.alloc (.cells (txC t) 35) := ⟨_, rfl⟩
          obtain ⟨ga, hga⟩ : ∃ ga, ga = w3.heap.size := ⟨_, rfl⟩
          rw [← hwa2] at hSx hxa
          rw [← hga] at hxa
          rw [← hwa2, ← hga]
          clear hwa2 hga
          have hgl := hxa.lt
          refine wpK_step 2 (by kernel_rfl) rfl ?_
          refine wpList_buildSlice rfl _ _ _ rfl #[] rfl (slice_no wa) ?_
          go_wp2
          have hSx' := hSx.alloc (.cells #[] 35)
          have hzb : (wa.alloc (.cells #[] 35)).ownsRow (w.heap.size + 3) 35 7 (.slice (some ⟨wa.heap.size, 0, none⟩) 0 0) 0 [] := ⟨rfl, .inr ⟨wa.heap.size, 0, #[], rfl, hSx.size, Blk.new _ _ _, Nat.le_refl _, Nat.zero_le _, rfl, rfl⟩⟩
          refine stepQ.mk ⟨fun _ => hSx', ?_⟩
          have hxb := hxa.alloc (.cells #[] 35)
          refine wpK_step 5 (by kernel_rfl) rfl ?_
          refine L3.wpList_append_any _ rfl (.tmp 24) (.tmp 26) 28 rfl (w.heap.size + 3) 35 i0 _ 7 88 Tryd.underlying28 hi hz0 hz1 hz2 rfl (by decide) (.slice (some ⟨wa.heap.size, 0, none⟩) 0 0) 0 [] rfl hzb (wa.alloc (.cells #[] 35)).heap.size A n c (L.flatMap txL) rfl (by have := (HRD.out.below hSx'.bw).reads (f := txL) (k := 7) (fun _ => rfl); rw [← HN.out] at this; exact this) HONE.out (by unfold maxLen; omega) (by omega) hSx'.size ?_
          intro v5 w5 hr5 hg5 hat5
          simp only [Nat.zero_add, List.nil_append] at hr5
          obtain ⟨A5, c5, rfl, _⟩ := L6.row_reads hr5
          have T5 := hSx'.grown hg5 (fun g e => (hzb.lt g e).1)
          have hr5' : w5.ownsRow (w.heap.size + 3) 35 7 (.slice A5 n c5) n (L.flatMap txL) := hr5
          go_wp2
          refine stepQ.mk ⟨fun _ => T5, ?_⟩
          have hx5 : Blk w5 ga 35 (txC t) := hxb.grown hg5 (fun e => by simp only [Value.ownBlock, Option.some.injEq] at e; omega)
          refine wpK_step 8 (by kernel_rfl) rfl ?_
          refine L3.wpList_append_any _ rfl (.tmp 27) (.tmp 29) 28 rfl (w.heap.size + 3) 35 i0 _ 7 88 Tryd.underlying28 hi hz0 hz1 hz2 rfl (by decide) (.slice A5 n c5) n (L.flatMap txL) rfl hr5' (ga + 1) (some ⟨ga, 0, none⟩) 1 1 (txL t) rfl (reads_one (k := 7) rfl hx5) (one_txL t) (by unfold maxLen; omega) (by omega) T5.size ?_
          intro v9 w9 hr9 hg9 hat9
          have T9 := T5.grown hg9 (fun g e => (hr5'.lt g e).1)
          obtain ⟨A9, c9, rfl, _⟩ := L6.row_reads hr9
          have hr10 : w9.ownsRow (w.heap.size + 3) 35 7 (.slice A9 (L ++ [t]).length c9) (L ++ [t]).length ((L ++ [t]).flatMap txL) := by
            rw [List.length_append, List.flatMap_append, List.length_singleton, ← HN.out]
            simpa using hr9
          have hm9 : n + 1 = (L ++ [t]).length := by rw [List.length_append, List.length_singleton, ← HN.out]
          have HM9 := Lib.hid hm9
          clear hm9
          go_wp2
          refine stepQ.mk ⟨fun _ => T9, ?_⟩
          refine wpK_step 9 (by kernel_rfl) rfl ?_
          refine wpList_build rfl _ _ rfl #[(0, .int .i64 most), (1, .slice A9 (n + 1) c9)] rfl (build_pl most A9 (n + 1) c9 w9) ?_
          go_wp2
          refine stepQ.mk ⟨fun _ => T9, ?_⟩
          refine wpK_seq [10, 11] _ _ _ (by kernel_rfl) ?_
          conv => arg 4; simp [pick]
          have hre := T9.re
          go_wp2_with (first
            | (refine wpList_store_row rfl _ _ _ rfl (w.heap.size + 2) (plC most A9 (n + 1) c9) rfl rfl _ _ hre plInfo rfl (plC_ones _ _ _ _) ?_)
            | go_in)
          (try simp only [Exit.inBlock, Exit.then])
          refine bodyPost_ret (results_row2 rfl _ _ (w.heap.size + 2) rfl _ rfl _ (plC most A9 (n + 1) c9) _ _ (blk_setRow hre) Tryd.underlying30 rfl plInfo) rfl ?_
          have := refadd_yes HE2.out T9 hr10
          rw [← HM9.out] at this
          exact this
end Go.Proofs.YtohkjleppohinaaDoor
