/-
  The document's: with somebody's account.
-/
import Derived.Test.YthkgadjiiapfgaaGreatDoorRefGet
import Derived.Test.YthkgadjiiapfgaaGreatDoorParts
import Derived.Test.YthkgadjiiapfgaaGreatDoorSeqP
import Derived.Deep.QuietTactic
import Derived.BigQuiet
set_option linter.unusedSimpArgs false
set_option linter.unusedVariables false
set_option maxRecDepth 10000
namespace Go.Proofs.YthkgadjiiapfgaaGreatDoor
open Go.RowKit Go.Maps Go.Lib
open L3 (Blk Reads block_of_add add_of_add)
open L6 (Turn moreB fresh From In)

theorem acc_parts : ∃ i : TypeInfo, Tryz.prog.info? 64 = some i ∧ i.zero = some (.agg #[.string ⟨#[]⟩, .int .i64 0, .int .i64 0]) ∧ i.size = 3 ∧ i.bytes = 32 := by
  obtain ⟨i, hi, he⟩ := Option.map_eq_some_iff.1 accInfo3
  simp only [Prod.mk.injEq] at he
  exact ⟨i, hi, he⟩
theorem one_accL (a : Acc) : ∀ u ∈ accL a, u.oneCell' = true := by intro u hu; simp [accL] at hu; rcases hu with rfl | rfl | rfl <;> rfl
theorem filter_snoc {α : Type} {L : List α} {k : Nat} (h : k < L.length) (p : α → Bool) : (L.take (k + 1)).filter p = (L.take k).filter p ++ if p L[k] = true then [L[k]] else [] := by
  rw [List.take_succ_eq_append_getElem h, List.filter_append]
  congr 1
  by_cases hp : p L[k] = true
  · rw [if_pos hp]; simp [hp]
  · rw [if_neg hp]; simp [hp]
/-- A block of one struct, as append reads it. -/
theorem reads_one {w : World} {g : Nat} {T : TypeId} {cs : List Value} {k : Nat} (hk : cs.length = 1 * k) (h : Blk w g T cs.toArray) : Reads w (g + 1) k (some ⟨g, 0, none⟩) 1 cs :=
  ⟨hk, fun _ => ⟨⟨g, 0, none⟩, rfl, Nat.lt_succ_self g, blk_cells w g T cs h⟩⟩
/-- What is held while the others are copied. -/
structure PutAt (w W : World) (A V : Option Addr) (ca cv v : Nat) (L : List Acc) (a : Acc) (wr : World) : Prop where
  st : Blk wr w.heap.size 34 (mC A V L.length v ca cv)
  ac : Blk wr (w.heap.size + 1) 64 (accC a)
  re : Blk wr (w.heap.size + 2) 34 (mC none none 0 0 0 0)
  rd : Rd accL 3 wr A L
  bw : Below w.heap.size w wr
theorem PutAt.below {w W wr wr' : World} {A V : Option Addr} {ca cv v : Nat} {L : List Acc} {a : Acc} (h : PutAt w W A V ca cv v L a wr) (hb : Below wr.heap.size wr wr') : PutAt w W A V ca cv v L a wr' :=
  ⟨h.st.below hb h.st.lt, h.ac.below hb h.ac.lt, h.re.below hb h.re.lt, h.rd.below hb, nxt h.bw hb⟩
/-- Behind an append to a row that stands behind all these. -/
theorem PutAt.grown {w W wr wr' : World} {A V : Option Addr} {ca cv v : Nat} {L : List Acc} {a : Acc} (h : PutAt w W A V ca cv v L a wr) {row : Option Nat} (hg : wr.grownBy wr' row) (hr : ∀ g, row = some g → w.heap.size + 3 ≤ g) (hA : ∀ ad, A = some ad → L.length ≠ 0 → ad.block < w.heap.size) : PutAt w W A V ca cv v L a wr' := by
  have ht : Turn (fun k => w.heap.size + 3 ≤ k) wr wr' := Turn.of_grown hg hr
  exact ⟨ht.blk h.st (by omega), ht.blk h.ac (by omega), ht.blk h.re (by omega), h.rd.kept2 ht (fun h0 ad e h2 => by have := hA ad e h0; omega), h.bw.trans (ht.below (B := w.heap.size) (fun i hi => by omega) h.bw.size)⟩
set_option maxHeartbeats 4000000 in
set_option maxRecDepth 100000 in
theorem refput_any (A V : Option Addr) (ca cv v : Nat) (L : List Acc) (a : Acc) (w : World) (h : Rd accL 3 w A L) (hl : L.length ≤ 1000000) :
    Calls Tryz.prog 21 #[.agg (mC A V L.length v ca cv), .agg (accC a)] w fun e w' =>
      ∃ A' c', e = .returned (.agg (mC A' V (putA L a).length v c' cv)) ∧ Rd accL 3 w' A' (putA L a) ∧ (∀ ad, A' = some ad → w.heap.size ≤ ad.block ∧ ad.block < w'.heap.size) ∧ Below w.heap.size w w' := by
  obtain ⟨i0, hi, hz0, hz1, hz2⟩ := acc_parts
  go_enter Tryz.func21, Tryz.ntmps21
  go_upto_region 1 with (fail)
  obtain ⟨W, hW⟩ : ∃ W, W = ((w.alloc (.cells (mC A V L.length v ca cv) 34)).alloc (.cells (accC a) 64)).alloc (.cells (mC none none 0 0 0 0) 34) := ⟨_, rfl⟩
  have hP : PutAt w W A V ca cv v L a W := by
    rw [hW]
    have k2 := Blk.new (w.alloc (.cells (mC A V L.length v ca cv) 34)) 64 (accC a)
    have k3 := Blk.new ((w.alloc (.cells (mC A V L.length v ca cv) 34)).alloc (.cells (accC a) 64)) 34 (mC none none 0 0 0 0)
    have hb : Below w.heap.size w (((w.alloc (.cells (mC A V L.length v ca cv) 34)).alloc (.cells (accC a) 64)).alloc (.cells (mC none none 0 0 0 0) 34)) := (((Below.refl _ _).alloc (Nat.le_refl _) _).alloc (by simp) _).alloc (by simp; omega) _
    exact ⟨((Blk.new _ _ _).alloc _).alloc _, by simpa using k2.alloc _, by simpa using k3, h.below hb, hb⟩
  have hs : W.heap.size = w.heap.size + 3 := by rw [hW]; simp
  have hA : ∀ ad, A = some ad → L.length ≠ 0 → ad.block < w.heap.size := fun ad e h0 => by
    obtain ⟨ad2, e2, hb, _⟩ := h 0 (by omega)
    rw [e] at e2; injection e2 with e2; rw [e2]; exact hb
  have hWe : ((w.alloc (.cells (mC A V L.length v ca cv) 34)).alloc (.cells (accC a) 64)).alloc (.cells #[.slice none 0 0, .slice none 0 0] 34) = W := hW.symm
  rw [hWe]
  clear hW hWe
  have HZ := Lib.hid hs
  clear hs
  go_wp2
  go_loopw [5, 6] (fun l i wr => ∃ k : Nat, i = .int .i64 k ∧ k ≤ L.length ∧ wr.ownsRow (w.heap.size + 3) 64 3 l ((L.take k).filter (fun x => decide (x.nm ≠ a.nm))).length (((L.take k).filter (fun x => decide (x.nm ≠ a.nm))).flatMap accL) ∧ PutAt w W A V ca cv v L a wr ∧ w.heap.size + 3 ≤ wr.heap.size)
    (fun _ i _ => L.length - (intOf i).toNat)
  case atStart => exact ⟨0, rfl, Nat.zero_le _, ⟨by simp, .inl ⟨rfl, by simp⟩⟩, hP, by have := HZ.out; omega⟩
  case round =>
    obtain ⟨k, rfl, hk, hrow, hPr, hsz⟩ := hrel
    have c0 : wr.cell? ⟨w.heap.size, 0, none⟩ = some (.slice A L.length ca) := hPr.st.cell 0
    have b0 : wr.cell? ⟨w.heap.size + 1, 0, none⟩ = some (.string (str a.nm)) := hPr.ac.cell 0
    by_cases hlt : k < L.length
    · obtain ⟨ad, rfl, hadl, hcs⟩ := hPr.rd k hlt
      have hfs := filter_snoc hlt (fun x : Acc => decide (x.nm ≠ a.nm))
      obtain ⟨x, hx⟩ : ∃ x, x = L[k] := ⟨_, rfl⟩
      rw [← hx] at hcs hfs
      have q0 : wr.cell? (ad.add (k * 3)) = some (.string (str x.nm)) := by have := hcs 0 _ rfl; rwa [add_of_add] at this
      obtain ⟨F, hF⟩ : ∃ F, F = (L.take k).filter (fun x => decide (x.nm ≠ a.nm)) := ⟨_, rfl⟩
      have hFl : F.length ≤ 1000000 := by rw [hF]; exact Nat.le_trans (List.length_filter_le _ _) (by rw [List.length_take]; omega)
      rw [← hF] at hrow hfs
      by_cases he : x.nm = a.nm
      · have e1 := str_eq he
        rw [if_neg (by simp [he]), List.append_nil] at hfs
        have HF := Lib.hid hfs
        clear he hx hF hfs
        go_wp2
        go_quiet (fail)
        go_wp2
        go_roundw
        case rel => exact ⟨k + 1, by go_num, by omega, by rw [HF.out]; exact hrow, ⟨hPr.st, hPr.ac, hPr.re, hPr.rd, L6.below_drewN hPr.bw _⟩, hsz⟩
        case measure => simp [intOf]; omega
      · have e1 := str_ne he
        rw [if_pos (by simp [he])] at hfs
        have HF := Lib.hid hfs
        clear he hx hF hfs
        go_wp2
        go_quiet (fail)
        have hP1 : PutAt w W (some ad) V ca cv v L a (wr.drewN nq) := ⟨hPr.st, hPr.ac, hPr.re, hPr.rd, L6.below_drewN hPr.bw nq⟩
        have hrow1 : (wr.drewN nq).ownsRow (w.heap.size + 3) 64 3 u5 F.length (F.flatMap accL) := hrow
        have hcs1 : ∀ j u, (accL x)[j]? = some u → (wr.drewN nq).cell? ((ad.add (k * 3)).add j) = some u := hcs
        have c01 : (wr.drewN nq).cell? ⟨w.heap.size, 0, none⟩ = some (.slice (some ad) L.length ca) := c0
        have hsz1 : w.heap.size + 3 ≤ (wr.drewN nq).heap.size := hsz
        obtain ⟨w1, hw1⟩ : ∃ w1, w1 = wr.drewN nq := ⟨_, rfl⟩
        rw [← hw1] at hP1 hrow1 hcs1 c01 hsz1
        rw [← hw1]
        clear hw1 hP hPr hrow hcs c0 b0 q0 e1
        have hyb : Blk (w1.alloc (.cells (accC x) 64)) w1.heap.size 64 (accC x) := Blk.new _ _ _
        have hP2 := hP1.below ((Below.refl _ w1).alloc (Nat.le_refl _) (.cells (accC x) 64))
        go_wp2_with (first
          | (refine wpList_cells_at rfl _ _ rfl (ad.add (k * 3)) rfl (accL x) _ hcs1 Tryz.underlying64 rfl accInfo ?_)
          | (refine wpList_buildSlice rfl _ _ _ rfl #[(0, .agg (accC x))] rfl (slice_acc x _) ?_)
          | (at_builtin; refine L3.wpList_append_any _ rfl (.tmp 23) (.tmp 29) 31 rfl (w.heap.size + 3) 64 i0 _ 3 32 Tryz.underlying31 hi hz0 hz1 hz2 rfl (by decide) u5 F.length (F.flatMap accL) rfl (hrow1.alloc _) (w1.heap.size + 1) (some ⟨w1.heap.size, 0, none⟩) 1 1 (accL x) rfl (reads_one (k := 3) rfl hyb) (one_accL x) (by unfold maxLen; omega) (by omega) (by simp; omega) ?_
             intro v2 w2 hrow2 hg2 hat2
             have hP3 := hP2.grown hg2 (fun i e => (hrow1.lt i e).1) hA
             have hs2 := hg2.size)
          | go_in)
        go_roundw
        case rel => exact ⟨k + 1, by go_num, by omega, by rw [HF.out, List.length_append, List.flatMap_append]; simpa using hrow2, hP3, by simp at hs2; omega⟩
        case measure => simp [intOf]; omega
    · obtain rfl : k = L.length := by omega
      rw [List.take_length] at hrow
      obtain ⟨F, hF⟩ : ∃ F, F = L.filter (fun x => decide (x.nm ≠ a.nm)) := ⟨_, rfl⟩
      have hFl : F.length ≤ 1000000 := by rw [hF]; exact Nat.le_trans (List.length_filter_le _ _) hl
      have HFF : Hid (putA L a = F ++ [a]) := Lib.hid (by rw [hF]; rfl)
      rw [← hF] at hrow
      clear hF
      go_upto_region 7 with (fail)
      have hPd : PutAt w W A V ca cv v L a wr.drew := ⟨hPr.st, hPr.ac, hPr.re, hPr.rd, hPr.bw.drew⟩
      have hS : (fun X : World => X.cell? ⟨w.heap.size, 1, none⟩ = some (.slice V v cv) ∧ Blk X (w.heap.size + 1) 64 (accC a)) wr.drew := ⟨hPd.st.cell 1, hPd.ac⟩
      refine wp_region_K (fun X : World => X.cell? ⟨w.heap.size, 1, none⟩ = some (.slice V v cv) ∧ Blk X (w.heap.size + 1) 64 (accC a)) [0, 1, 4, 5] (by kernel_rfl) ?_
      refine wpK_quiet (f := 4) (by kernel_rfl) (fun _ x _ _ _ h => by cases x <;> exact h) hS [0, 1, 4, 5] _ _ (by kernel_rfl) (by kernel_rfl) (by kernel_rfl) ?_
      have ne : Nonempty (WorldIn (fun X : World => X.cell? ⟨w.heap.size, 1, none⟩ = some (.slice V v cv) ∧ Blk X (w.heap.size + 1) 64 (accC a))) := ⟨⟨_, hS⟩⟩
      have p0 : ∀ y : WorldIn (fun X : World => X.cell? ⟨w.heap.size, 1, none⟩ = some (.slice V v cv) ∧ Blk X (w.heap.size + 1) 64 (accC a)), y.w.cell? ⟨w.heap.size, 1, none⟩ = some (.slice V v cv) := fun y => y.h.1
      conv => arg 5; simp [pick]
      go_big_quiet_step (fail)
      refine wpQuiet_row rfl _ _ rfl (w.heap.size + 1) rfl _ _ _ _ (fun y => y.h.2) Tryz.underlying64 rfl accInfo ?_
      conv => arg 6; simp only [Act.put, List.setIfInBounds_toArray, List.set_cons_zero, List.set_cons_succ]
      iterate 2 go_big_quiet_step (fail)
      refine wpQuiet_nil ?_
      refine wpK_step 2 (by kernel_rfl) rfl ?_
      refine wpList_buildSlice rfl _ _ _ rfl #[(0, .agg (accC a))] rfl (slice_acc a _) ?_
      go_wp2
      have hyb : Blk (wr.drew.alloc (.cells (accC a) 64)) wr.drew.heap.size 64 (accC a) := Blk.new _ _ _
      have hP2 := hPd.below ((Below.refl _ wr.drew).alloc (Nat.le_refl _) (.cells (accC a) 64))
      have hrow1 : wr.drew.ownsRow (w.heap.size + 3) 64 3 u5 F.length (F.flatMap accL) := hrow
      refine stepQ.mk ⟨fun _ => ⟨hP2.st.cell 1, hP2.ac⟩, ?_⟩
      refine wpK_step 3 (by kernel_rfl) rfl ?_
      refine L3.wpList_append_any _ rfl (.tmp 31) (.tmp 33) 31 rfl (w.heap.size + 3) 64 i0 _ 3 32 Tryz.underlying31 hi hz0 hz1 hz2 rfl (by decide) u5 F.length (F.flatMap accL) rfl (hrow1.alloc _) (wr.drew.heap.size + 1) (some ⟨wr.drew.heap.size, 0, none⟩) 1 1 (accL a) rfl (reads_one (k := 3) rfl hyb) (one_accL a) (by unfold maxLen; omega) (by omega) (by have : wr.drew.heap.size = wr.heap.size := rfl; simp; omega) ?_
      intro v2 w2 hrow2 hg2 hat2
      have hP3 := hP2.grown hg2 (fun i e => (hrow1.lt i e).1) hA
      have hrow3 : w2.ownsRow (w.heap.size + 3) 64 3 v2 (F ++ [a]).length ((F ++ [a]).flatMap accL) := by simpa using hrow2
      rw [← HFF.out] at hrow3
      obtain ⟨A2, c2, rfl, hrd2, hoff2⟩ := Rd.of_row accL_len hrow3
      obtain ⟨m, hm⟩ : ∃ m, m = (putA L a).length := ⟨_, rfl⟩
      rw [← hm]
      go_wp2
      refine stepQ.mk ⟨fun _ => ⟨hP3.st.cell 1, hP3.ac⟩, ?_⟩
      refine wpK_step 6 (by kernel_rfl) rfl ?_
      refine wpList_build rfl _ _ rfl #[(0, .slice A2 m c2), (1, .slice V v cv)] rfl (build_stt A2 V m v c2 cv w2) ?_
      go_wp2
      refine stepQ.mk ⟨fun _ => ⟨hP3.st.cell 1, hP3.ac⟩, ?_⟩
      refine wpK_seq [7] _ _ _ (by kernel_rfl) ?_
      conv => arg 4; simp [pick]
      refine wpList_store_row rfl _ _ _ rfl (w.heap.size + 2) (mC A2 V m v c2 cv) rfl rfl _ _ hP3.re sttInfo rfl (mC_ones _ _ _ _ _ _) ?_
      go_wp2
      (try simp only [Exit.inBlock, Exit.then])
      refine bodyPost_ret (results_row rfl _ _ (w.heap.size + 2) rfl _ (mC A2 V m v c2 cv) _ _ (blk_setRow hP3.re) Tryz.underlying34 rfl sttInfo) rfl ?_
      have ht : Turn (fun k => k = w.heap.size + 2) w2 (w2.setRow (w.heap.size + 2) (mC A2 V m v c2 cv)) := by
        refine ⟨rfl, rfl, rfl, by simp [World.setRow], fun i hi hn => ?_⟩
        have : ¬ w.heap.size + 2 = i := fun e => hn e.symm
        simp [World.setRow, Array.getElem?_modify, this]
      refine ⟨A2, c2, by rw [hm], hrd2.kept ht (fun ad e h2 => by have := (hoff2 ad e).1; omega), fun ad e => ⟨by have := (hoff2 ad e).1; omega, Nat.lt_of_lt_of_le (hoff2 ad e).2 ht.size⟩, below_setRow hP3.bw (by omega)⟩
end Go.Proofs.YthkgadjiiapfgaaGreatDoor
