/-
  The document's tree, one block more: walked.
-/
import Derived.Test.YtgclofemhhhepaaRefUp
import Derived.Deep.DeepCutAuto
set_option linter.unusedSimpArgs false
set_option linter.unusedVariables false
set_option maxRecDepth 10000
namespace Go.Proofs.Ytgclofemhhhepaa
open Go.RowKit Go.Maps Go.Lib
open L3 (Blk Reads block_of_add add_of_add)
open L6 (Turn moreB fresh From In)

theorem slice_no (w : World) : (Instr.buildSlice 28 0 #[]).run Try.prog w = .ok (.slice (some ⟨w.heap.size, 0, none⟩) 0 0) (w.alloc (.cells #[] 68)) := by kernel_rfl
theorem build_en (n : Int) (b : Bl) (i : Bool) (w : World) : (Instr.build 68 #[(0, .int .i64 n), (1, .agg (blC b)), (2, .bool i)]).run Try.prog w = .ok (.agg (enC ⟨n, b, i⟩)) w := run_build w _ _ _ (by kernel_rfl)
theorem own_open {w : World} {base size n : Nat} {e : TypeId} {v : Value} {xs : List Value} (h : w.ownsRow base e size v n xs) (h0 : 0 < n) : ∃ g c, v = .slice (some ⟨g, 0, none⟩) n c ∧ base ≤ g := by
  rcases h.2 with ⟨_, hz⟩ | ⟨g, cap, cur, he, hg, _⟩
  · omega
  · exact ⟨g, cap, he, hg⟩
/-- The longer list is laid into the tree's block. -/
theorem put_list {w X : World} {m r rd : Int} {A : Option Addr} {z c g9 n9 c9 : Nat} {b : Bl} {M : List Ent} (h : PuAt w m r rd A z c b X) (hr : OwnE X (w.heap.size + 3) g9 n9 c9 M) :
    PuAt w m r rd (some ⟨g9, 0, none⟩) n9 c9 b (X.setCell ⟨w.heap.size, 3, none⟩ (.slice (some ⟨g9, 0, none⟩) n9 c9)) ∧ OwnE (X.setCell ⟨w.heap.size, 3, none⟩ (.slice (some ⟨g9, 0, none⟩) n9 c9)) (w.heap.size + 3) g9 n9 c9 M := by
  obtain ⟨_, _, hg, _⟩ := hr.rd
  have ht : Turn (fun k => k = w.heap.size) X (X.setCell ⟨w.heap.size, 3, none⟩ (.slice (some ⟨g9, 0, none⟩) n9 c9)) := (L6.Turn.of_keep (S := fun k => k = w.heap.size) (Below.refl X.heap.size X)).setCell (.inl rfl) _
  exact ⟨h.list _ _ _, ht.row hr (fun k hk e => by have : g9 = k := by simpa [Value.ownBlock] using hk
                                                   omega)⟩
theorem putE_known {s : TS} {n : Int} {b : Bl} (h1 : ¬ n < 1) (h : n = s.root ∨ known s.L n) : putE s n b = 100 := by unfold putE; rw [if_neg h1, if_pos h]
theorem ref_parts {s : TS} {n : Int} {b : Bl} (h1 : ¬ n < 1) (h2 : ¬ (n = s.root ∨ known s.L n)) : (b.rd ≤ s.round → refE s n b = 151) ∧ (¬ b.rd ≤ s.round → refE s n b = 0) := by
  unfold refE
  rw [if_neg h1, if_neg h2]
  exact ⟨fun h => if_pos h, fun h => if_neg h⟩
theorem ref_known {s : TS} {n : Int} {b : Bl} (h1 : ¬ n < 1) (h : n = s.root ∨ known s.L n) : refE s n b = 100 := by unfold refE; rw [if_neg h1, if_pos h]
theorem ref_low {s : TS} {n : Int} {b : Bl} (h1 : n < 1) : refE s n b = 1 := by unfold refE; rw [if_pos h1]
set_option maxHeartbeats 4000000 in
set_option maxRecDepth 100000 in
theorem rput_any (s : TS) (hs : s.wf) (A : Option Addr) (c : Nat) (hl : s.L.length ≤ 100000) (n : Int) (b : Bl) (w : World) (hr : Rd enL 16 w A s.L) :
    Calls Try.prog 10 #[.agg (rtC s.most s.root s.round A s.L.length c), .int .i64 n, .agg (blC b)] w (RTPost A (putS s n b) (putE s n b) w) := by
  obtain ⟨i0, hi, hz0, hz1, hz2⟩ := info_parts enInfo3
  have HS := Lib.hid (fun X k (hb : Below w.heap.size w X) => rt_same (A := A) (c := c) (s := s) (k := k) (g := w.heap.size + 2) rfl hr hb (by omega))
  have HAT := Lib.hid (fun W (hb : Below w.heap.size w W) => rat_any s.most s.root s.round A c s.L n W (hr.below hb) (by omega))
  have HHAS := Lib.hid (fun W v (hb : Below w.heap.size w W) (hv : decide (hasV s.root s.L b.p) = v) => by have := rhas_any s.most s.root s.round A c s.L b.p W (hr.below hb) hs.one.1 (by omega); rw [hv] at this; exact this)
  have HORP := Lib.hid (fun W (hb : Below w.heap.size w W) => rorph_any s.most s.root s.round A c s.L W (hr.below hb) (by omega))
  have HKN := Lib.hid (atV_known (L := s.L) (n := n))
  have HRD := Lib.hid hr
  have HWF := Lib.hid hs
  obtain ⟨S, hS⟩ : ∃ S, S = s := ⟨_, rfl⟩
  have HLOW := Lib.hid (fun (h : n < 1) => putE_ref (b := b) (s := s) (n := n) (by rw [ref_low h]; decide))
  have HLOWE := Lib.hid (fun (h : n < 1) => ref_low (b := b) (s := s) (n := n) h)
  have HREF := Lib.hid (fun h => putE_ref (b := b) (s := s) (n := n) h)
  have HPARTS := Lib.hid (fun h1 h2 => ref_parts (b := b) (s := s) (n := n) h1 h2)
  have HKNOWN := Lib.hid (fun h1 h2 => ref_known (b := b) (s := s) (n := n) h1 h2)
  have HIN := Lib.hid (fun h1 h2 => putS_in (b := b) (s := s) (n := n) h1 h2)
  have HFULL := Lib.hid (fun h1 h2 h3 => putS_full (b := b) (s := s) (n := n) h1 h2 h3)
  have HORPH := Lib.hid (fun h1 h2 h3 => putS_orph (b := b) (s := s) (n := n) h1 h2 h3)
  have HL := Lib.hid (show s.L = S.L from by rw [hS])
  have hz : S.L.length = s.L.length := by rw [hS]
  rw [← hS] at HS HLOW HLOWE HREF HPARTS HKNOWN HIN HFULL HORPH HKN HWF
  rw [← hS]
  have hroot : S.root = s.root := by rw [hS]
  have hmost : S.most = s.most := by rw [hS]
  have hround : S.round = s.round := by rw [hS]
  obtain ⟨m, r, rd, L⟩ := s
  dsimp only at *
  obtain ⟨z, hzl⟩ : ∃ z, z = L.length := ⟨_, rfl⟩
  rw [← hzl] at HAT HHAS HORP hl hz
  have HZ := Lib.hid hzl
  have HROOT : Hid (S.root = r) := Lib.hid hroot
  show Calls Try.prog 10 #[.agg (rtC S.most S.root S.round A S.L.length c), .int .i64 n, .agg (blC b)] w (RTPost A (putS S n b) (putE S n b) w)
  rw [hroot, hmost, hround, hz]
  rw [hroot, hmost, hround, hz] at HS
  rw [hroot] at HKNOWN HPARTS HIN HFULL HORPH
  rw [hround] at HPARTS HIN HORPH
  rw [hmost] at HFULL HORPH HIN
  have hP0 := PuAt.start w m r rd A z c b
  obtain ⟨W0, hW0⟩ : ∃ W0, W0 = ((w.alloc (.cells (rtC m r rd A z c) 30)).alloc (.cells (blC b) 39)).alloc (.cells (rtC 0 0 0 none 0 0) 30) := ⟨_, rfl⟩
  rw [← hW0] at hP0
  have hE : ((w.alloc (.cells (rtC m r rd A z c) 30)).alloc (.cells (blC b) 39)).alloc (.cells #[.int .i64 0, .int .i64 0, .int .i64 0, .slice none 0 0] 30) = W0 := hW0.symm
  clear hr hs hS hz hroot hmost hround hzl hW0
  go_enter Try.func10, Try.ntmps10
  go_upto_region 1 with fail
  clear hE
  by_cases hn : n < 1
  · have HE : Hid (putE S n b = 1 ∧ putS S n b = S) := Lib.hid ⟨(HLOW.out hn).1.trans (HLOWE.out hn), (HLOW.out hn).2⟩
    go_upto_region 2 with fail
    clear hn
    have tb9 := hP0.tb
    have re9 := hP0.re
    go_wp2_with (first
      | (refine wpList_row_at rfl _ _ rfl w.heap.size rfl _ _ _ _ tb9 Try.underlying30 rfl rtInfo ?_)
      | (refine wpList_store_row rfl _ _ _ rfl (w.heap.size + 2) (rtC m r rd A z c) rfl rfl _ _ re9 rtInfo rfl (rtC_ones _ _ _ _ _ _) ?_)
      | go_in)
    (try simp only [Exit.inBlock, Exit.then])
    refine bodyPost_ret (results_row2 rfl _ _ (w.heap.size + 2) rfl _ rfl _ (rtC m r rd A z c) _ _ (blk_setRow re9) Try.underlying30 rfl rtInfo) rfl ?_
    rw [HE.out.1, HE.out.2]
    exact HS.out _ _ hP0.bw
  · have HN1 := Lib.hid hn
    go_upto_region 3 with fail
    have H1 := Lib.hid (HAT.out W0 hP0.bw)
    have tb0 := hP0.tb
    obtain ⟨y, hy⟩ : ∃ y, y = (atV L n).getD zeroEn := ⟨_, rfl⟩
    obtain ⟨kb, hkb⟩ : ∃ kb, kb = (atV L n).isSome := ⟨_, rfl⟩
    rw [← hy, ← hkb] at H1
    have HKB : Hid (kb = true ↔ known S.L n) := Lib.hid (by rw [← HKN.out, ← HL.out, hkb])
    clear hy hkb HKN hn
    go_upto_region 4 with (first
      | (refine wpList_row_at rfl _ _ rfl w.heap.size rfl _ _ _ _ tb0 Try.underlying30 rfl rtInfo ?_)
      | (go_at_call 22; refine H1.out.mono ?_; unfold gives; rintro e2 w2 ⟨rfl, hb2⟩)
      | (refine wpList_store_new rfl _ _ _ rfl w2 (enC y) rfl rfl 68 _ enInfo rfl (enC_ones _) ?_)
      | go_in)
    have hP3 := (hP0.below hb2).alloc (.cells (enC y) 68)
    obtain ⟨w3, hw3⟩ : ∃ w3, w3 = w2.alloc (.cells (enC y) 68) := ⟨_, rfl⟩
    rw [← hw3] at hP3
    rw [← hw3]
    clear hw3 hb2 hP0 tb0 H1
    have t1 : w3.cell? ⟨w.heap.size, 1, none⟩ = some (.int .i64 r) := hP3.tb.cell 1
    have t2 : w3.cell? ⟨w.heap.size, 2, none⟩ = some (.int .i64 rd) := hP3.tb.cell 2
    have b1 : w3.cell? ⟨w.heap.size + 1, 1, none⟩ = some (.int .i64 b.rd) := hP3.bb.cell 1
    have b5 : w3.cell? ⟨w.heap.size + 1, 5, none⟩ = some (.int .i64 b.p) := hP3.bb.cell 5
    cases kb with
    | true =>
      have hk : n = r ∨ known S.L n := .inr (HKB.out.1 rfl)
      have hq := HKNOWN.out HN1.out hk
      have HE : Hid (putE S n b = 100 ∧ putS S n b = S) := Lib.hid ⟨(HREF.out (by rw [hq]; decide)).1.trans hq, (HREF.out (by rw [hq]; decide)).2⟩
      clear hk hq
      go_upto_region 5 with fail
      clear t1 t2 b1 b5
      have tb9 := hP3.tb
      have re9 := hP3.re
      go_wp2_with (first
        | (refine wpList_row_at rfl _ _ rfl w.heap.size rfl _ _ _ _ tb9 Try.underlying30 rfl rtInfo ?_)
        | (refine wpList_store_row rfl _ _ _ rfl (w.heap.size + 2) (rtC m r rd A z c) rfl rfl _ _ re9 rtInfo rfl (rtC_ones _ _ _ _ _ _) ?_)
        | go_in)
      (try simp only [Exit.inBlock, Exit.then])
      refine bodyPost_ret (results_row2 rfl _ _ (w.heap.size + 2) rfl _ rfl _ (rtC m r rd A z c) _ _ (blk_setRow re9) Try.underlying30 rfl rtInfo) rfl ?_
      rw [HE.out.1, HE.out.2]
      exact HS.out _ _ hP3.bw
    | false =>
      by_cases hnr : n = r
      · have hnq : (n == r) = true := by simpa using hnr
        have hq := HKNOWN.out HN1.out (.inl hnr)
        have HE : Hid (putE S n b = 100 ∧ putS S n b = S) := Lib.hid ⟨(HREF.out (by rw [hq]; decide)).1.trans hq, (HREF.out (by rw [hq]; decide)).2⟩
        clear hq hnr
        go_upto_region 5 with fail
        clear t1 t2 b1 b5
        have tb9 := hP3.tb
        have re9 := hP3.re
        go_wp2_with (first
          | (refine wpList_row_at rfl _ _ rfl w.heap.size rfl _ _ _ _ tb9 Try.underlying30 rfl rtInfo ?_)
          | (refine wpList_store_row rfl _ _ _ rfl (w.heap.size + 2) (rtC m r rd A z c) rfl rfl _ _ re9 rtInfo rfl (rtC_ones _ _ _ _ _ _) ?_)
          | go_in)
        (try simp only [Exit.inBlock, Exit.then])
        refine bodyPost_ret (results_row2 rfl _ _ (w.heap.size + 2) rfl _ rfl _ (rtC m r rd A z c) _ _ (blk_setRow re9) Try.underlying30 rfl rtInfo) rfl ?_
        rw [HE.out.1, HE.out.2]
        exact HS.out _ _ hP3.bw
      · have hnq : (n == r) = false := by simpa using hnr
        have HNK : Hid (¬ (n = r ∨ known S.L n)) := Lib.hid (by
          rintro (h | h)
          · exact hnr h
          · have := HKB.out.2 h; cases this)
        have hpt := HPARTS.out HN1.out HNK.out
        clear hnr HKB
        by_cases hrd : b.rd ≤ rd
        · have hq := hpt.1 hrd
          have HE : Hid (putE S n b = 151 ∧ putS S n b = S) := Lib.hid ⟨(HREF.out (by rw [hq]; decide)).1.trans hq, (HREF.out (by rw [hq]; decide)).2⟩
          clear hpt hq
          go_upto_region 7 with fail
          clear t1 t2 b1 b5
          have tb9 := hP3.tb
          have re9 := hP3.re
          go_wp2_with (first
            | (refine wpList_row_at rfl _ _ rfl w.heap.size rfl _ _ _ _ tb9 Try.underlying30 rfl rtInfo ?_)
            | (refine wpList_store_row rfl _ _ _ rfl (w.heap.size + 2) (rtC m r rd A z c) rfl rfl _ _ re9 rtInfo rfl (rtC_ones _ _ _ _ _ _) ?_)
            | go_in)
          (try simp only [Exit.inBlock, Exit.then])
          refine bodyPost_ret (results_row2 rfl _ _ (w.heap.size + 2) rfl _ rfl _ (rtC m r rd A z c) _ _ (blk_setRow re9) Try.underlying30 rfl rtInfo) rfl ?_
          rw [HE.out.1, HE.out.2]
          exact HS.out _ _ hP3.bw
        · have HQ := Lib.hid (hpt.2 (by omega))
          clear hpt
          go_upto_region 8 with fail
          have tb3 := hP3.tb
          obtain ⟨v, hv⟩ : ∃ v, v = decide (hasV r L b.p) := ⟨_, rfl⟩
          have H2 := Lib.hid (HHAS.out w3 v hP3.bw hv.symm)
          have HV := Lib.hid hv
          clear hv t1 t2 b1
          go_upto_region 9 with (first
            | (refine wpList_row_at rfl _ _ rfl w.heap.size rfl _ _ _ _ tb3 Try.underlying30 rfl rtInfo ?_)
            | (go_at_call 23; refine H2.out.mono ?_; unfold gives; rintro e4 w4 ⟨rfl, hb4⟩)
            | go_in)
          have hP4 := hP3.below hb4
          clear hb4 hP3 tb3 H2 b5
          cases v with
          | true =>
            have hvv : hasV r L b.p := of_decide_eq_true HV.out.symm
            have hvS : hasV r S.L b.p := by rw [← HL.out]; exact hvv
            have HVS := Lib.hid hvS
            have HE : Hid (putE S n b = 0 ∧ putS S n b = ⟨m, r, rd, settle r (S.L ++ [⟨n, b, true⟩])⟩) := Lib.hid (HIN.out HQ.out hvS)
            clear hvv hvS HV HHAS HORP HAT
            have hS := hP4.drew
            refine wp_region_S (PuAt w m r rd A z c b) (by kernel_rfl) (by kernel_rfl) hS ?_
            have ne : Nonempty (WorldIn (PuAt w m r rd A z c b)) := ⟨⟨_, hS⟩⟩
            repeat go_big_quiet_step (fail)
            refine wpQuiet_nil ?_
            intro zz
            obtain ⟨W, P5⟩ := zz
            dsimp only
            clear ne hS hP4
            go_upto_region 11 with fail
            have hone : ∀ u ∈ L.flatMap enL, u.oneCell' = true := by intro u hu; obtain ⟨x, _, hx⟩ := List.mem_flatMap.1 hu; exact one_enL x u hx
            have HONE := Lib.hid hone
            clear hone
            go_cut [] from 51 to 61 (fun wx => ∃ g9 c9, PuAt w m r rd (some ⟨g9, 0, none⟩) (z + 1) c9 b wx ∧ OwnE wx (w.heap.size + 3) g9 (z + 1) c9 (S.L ++ [⟨n, b, true⟩]))
            case first =>
              have hS := P5.drew
              refine wp_region_K (PuAt w m r rd A z c b) [1, 2, 4, 5, 6, 7] (by kernel_rfl) ?_
              refine wpK_quiet (f := 6) (by kernel_rfl) (fun _ x _ _ _ h => by cases x <;> exact h) hS [1, 2, 4, 5, 6, 7] _ _ (by kernel_rfl) (by kernel_rfl) (by kernel_rfl) ?_
              have ne : Nonempty (WorldIn (PuAt w m r rd A z c b)) := ⟨⟨_, hS⟩⟩
              have p1 : ∀ y : WorldIn (PuAt w m r rd A z c b), y.w.cell? ⟨w.heap.size, 3, none⟩ = some (.slice A z c) := fun y => y.h.tb.cell 3
              conv => arg 5; simp [pick]
              iterate 3 go_big_quiet_step (fail)
              refine wpQuiet_row rfl _ _ rfl (w.heap.size + 1) rfl _ _ _ _ (fun y => y.h.bb) Try.underlying39 rfl blInfo ?_
              conv => arg 6; simp only [Act.put, List.setIfInBounds_toArray, List.set_cons_zero, List.set_cons_succ]
              go_big_quiet_step (fail)
              refine wpQuiet_build rfl _ _ rfl #[(0, .int .i64 n), (1, .agg (blC b)), (2, .bool true)] rfl (fun W => build_en n b true W) ?_
              conv => arg 6; simp only [Act.put, List.setIfInBounds_toArray, List.set_cons_zero, List.set_cons_succ]
              refine wpQuiet_nil ?_
              clear p1
              obtain ⟨w3, hw3⟩ : ∃ w3, w3 = W.drew := ⟨_, rfl⟩
              rw [← hw3] at hS
              rw [← hw3]
              clear hw3 P5
              refine wpK_two 0 8 (by kernel_rfl) rfl rfl ?_ ?_
              · refine wpList_buildSlice rfl _ _ _ rfl #[] rfl (slice_no w3) ?_
                go_wp2
                have hS' := hS.alloc (.cells #[] 68)
                have hza : (w3.alloc (.cells #[] 68)).ownsRow (w.heap.size + 3) 68 16 (.slice (some ⟨w3.heap.size, 0, none⟩) 0 0) 0 [] := ⟨rfl, .inr ⟨w3.heap.size, 0, #[], rfl, hS.size, Blk.new _ _ _, Nat.le_refl _, Nat.zero_le _, rfl, rfl⟩⟩
                refine stepQ.mk ⟨fun _ => hS', ?_⟩
                obtain ⟨wa, hwa2⟩ : ∃ wa, wa = w3.alloc (.cells #[] 68) := ⟨_, rfl⟩
                obtain ⟨ga, hga⟩ : ∃ ga, ga = w3.heap.size := ⟨_, rfl⟩
                rw [← hwa2] at hS' hza
                rw [← hga] at hza
                rw [← hwa2, ← hga]
                clear hwa2 hga
                refine wpK_two 3 8 (by kernel_rfl) rfl rfl ?_ ?_
                · refine L3.wpList_append_any _ rfl (.tmp 51) (.tmp 53) 28 rfl (w.heap.size + 3) 68 i0 _ 16 152 Try.underlying28 hi hz0 hz1 hz2 rfl (by decide) (.slice (some ⟨ga, 0, none⟩) 0 0) 0 [] rfl hza wa.heap.size A z c (L.flatMap enL) rfl (by have := (HRD.out.below hS'.bw).reads (f := enL) (k := 16) enL_len; rw [← HZ.out] at this; exact this) HONE.out (by unfold maxLen; omega) (by omega) hS'.size ?_
                  intro v5 w5 hr5 hg5 hat5
                  simp only [Nat.zero_add, List.nil_append] at hr5
                  obtain ⟨A5, c5, rfl, _⟩ := L6.row_reads hr5
                  have T5 := hS'.grown hg5 (fun g e => (hza.lt g e).1)
                  have hr5' : w5.ownsRow (w.heap.size + 3) 68 16 (.slice A5 z c5) z (L.flatMap enL) := hr5
                  go_wp2
                  refine stepQ.mk ⟨fun _ => T5, ?_⟩
                  refine wpK_step 8 (by kernel_rfl) rfl ?_
                  refine wpList_buildSlice rfl _ _ _ rfl #[(0, .agg (enC ⟨n, b, true⟩))] rfl (slice_en _ w5) ?_
                  go_wp2
                  have T5x := T5.alloc (.cells (enC ⟨n, b, true⟩) 68)
                  refine stepQ.mk ⟨fun _ => T5x, ?_⟩
                  have hx5 := box_of w5 ⟨n, b, true⟩
                  have hrx := hr5'.alloc (.cells (enC ⟨n, b, true⟩) 68)
                  refine wpK_step 9 (by kernel_rfl) rfl ?_
                  refine L3.wpList_append_any _ rfl (.tmp 54) (.tmp 59) 28 rfl (w.heap.size + 3) 68 i0 _ 16 152 Try.underlying28 hi hz0 hz1 hz2 rfl (by decide) (.slice A5 z c5) z (L.flatMap enL) rfl hrx (w5.heap.size + 1) (some ⟨w5.heap.size, 0, none⟩) 1 1 (enL ⟨n, b, true⟩) rfl (reads_one (k := 16) rfl hx5) (one_enL _) (by unfold maxLen; omega) (by omega) T5x.size ?_
                  intro v9 w9 hr9 hg9 hat9
                  have T9 := T5x.grown hg9 (fun g e => (hrx.lt g e).1)
                  obtain ⟨g9, c9, rfl, _⟩ := own_open hr9 (by omega)
                  have hr10 : OwnE w9 (w.heap.size + 3) g9 (z + 1) c9 (L ++ [⟨n, b, true⟩]) := by
                    unfold OwnE
                    rw [flat_one.1, flat_one.2, ← HZ.out]
                    exact hr9
                  have HPL := Lib.hid (put_list T9 hr10)
                  have s3 := T9.tb.cell 3
                  have f3 := T9.tb.frozen 3
                  clear hr9 hat9 hr10
                  go_wp2
                  refine stepQ.mk ⟨fun _ => T9, ?_⟩
                  refine wpK_seq [10, 11] _ _ _ (by kernel_rfl) ?_
                  conv => arg 4; simp [pick]
                  go_wp2
                  go_meet
                  case rel => exact ⟨g9, c9, HPL.out.1, by rw [← HL.out]; exact HPL.out.2⟩
                · refine wpList_buildSlice rfl _ _ _ rfl #[(0, .agg (enC ⟨n, b, true⟩))] rfl (slice_en _ wa) ?_
                  go_wp2
                  have hSx := hS'.alloc (.cells (enC ⟨n, b, true⟩) 68)
                  refine stepQ.mk ⟨fun _ => hSx, ?_⟩
                  have hxa := box_of wa ⟨n, b, true⟩
                  have hzx := hza.alloc (.cells (enC ⟨n, b, true⟩) 68)
                  refine wpK_step 3 (by kernel_rfl) rfl ?_
                  refine L3.wpList_append_any _ rfl (.tmp 51) (.tmp 53) 28 rfl (w.heap.size + 3) 68 i0 _ 16 152 Try.underlying28 hi hz0 hz1 hz2 rfl (by decide) (.slice (some ⟨ga, 0, none⟩) 0 0) 0 [] rfl hzx (wa.alloc (.cells (enC ⟨n, b, true⟩) 68)).heap.size A z c (L.flatMap enL) rfl (by have := (HRD.out.below hSx.bw).reads (f := enL) (k := 16) enL_len; rw [← HZ.out] at this; exact this) HONE.out (by unfold maxLen; omega) (by omega) hSx.size ?_
                  intro v5 w5 hr5 hg5 hat5
                  simp only [Nat.zero_add, List.nil_append] at hr5
                  obtain ⟨A5, c5, rfl, _⟩ := L6.row_reads hr5
                  have T5 := hSx.grown hg5 (fun g e => (hzx.lt g e).1)
                  have hr5' : w5.ownsRow (w.heap.size + 3) 68 16 (.slice A5 z c5) z (L.flatMap enL) := hr5
                  go_wp2
                  refine stepQ.mk ⟨fun _ => T5, ?_⟩
                  have hx5 : Blk w5 wa.heap.size 68 (enC ⟨n, b, true⟩) := hxa.grown hg5 (fun e => by have := (hza.lt ga rfl).2; simp only [Value.ownBlock, Option.some.injEq] at e; omega)
                  refine wpK_step 9 (by kernel_rfl) rfl ?_
                  refine L3.wpList_append_any _ rfl (.tmp 54) (.tmp 59) 28 rfl (w.heap.size + 3) 68 i0 _ 16 152 Try.underlying28 hi hz0 hz1 hz2 rfl (by decide) (.slice A5 z c5) z (L.flatMap enL) rfl hr5' (wa.heap.size + 1) (some ⟨wa.heap.size, 0, none⟩) 1 1 (enL ⟨n, b, true⟩) rfl (reads_one (k := 16) rfl hx5) (one_enL _) (by unfold maxLen; omega) (by omega) T5.size ?_
                  intro v9 w9 hr9 hg9 hat9
                  have T9 := T5.grown hg9 (fun g e => (hr5'.lt g e).1)
                  obtain ⟨g9, c9, rfl, _⟩ := own_open hr9 (by omega)
                  have hr10 : OwnE w9 (w.heap.size + 3) g9 (z + 1) c9 (L ++ [⟨n, b, true⟩]) := by
                    unfold OwnE
                    rw [flat_one.1, flat_one.2, ← HZ.out]
                    exact hr9
                  have HPL := Lib.hid (put_list T9 hr10)
                  have s3 := T9.tb.cell 3
                  have f3 := T9.tb.frozen 3
                  clear hr9 hat9 hr10
                  go_wp2
                  refine stepQ.mk ⟨fun _ => T9, ?_⟩
                  refine wpK_seq [10, 11] _ _ _ (by kernel_rfl) ?_
                  conv => arg 4; simp [pick]
                  go_wp2
                  go_meet
                  case rel => exact ⟨g9, c9, HPL.out.1, by rw [← HL.out]; exact HPL.out.2⟩
              · refine wpList_buildSlice rfl _ _ _ rfl #[(0, .agg (enC ⟨n, b, true⟩))] rfl (slice_en _ w3) ?_
                go_wp2
                have hSx := hS.alloc (.cells (enC ⟨n, b, true⟩) 68)
                refine stepQ.mk ⟨fun _ => hSx, ?_⟩
                have hxa := box_of w3 ⟨n, b, true⟩
                obtain ⟨wa, hwa2⟩ : ∃ wa, wa = w3.alloc (.cells (enC ⟨n, b, true⟩) 68) := ⟨_, rfl⟩
                obtain ⟨ga, hga⟩ : ∃ ga, ga = w3.heap.size := ⟨_, rfl⟩
                rw [← hwa2] at hSx hxa
                rw [← hga] at hxa
                rw [← hwa2, ← hga]
                clear hwa2 hga
                have hgl := hxa.lt
                refine wpK_step 0 (by kernel_rfl) rfl ?_
                refine wpList_buildSlice rfl _ _ _ rfl #[] rfl (slice_no wa) ?_
                go_wp2
                have hSx' := hSx.alloc (.cells #[] 68)
                have hzb : (wa.alloc (.cells #[] 68)).ownsRow (w.heap.size + 3) 68 16 (.slice (some ⟨wa.heap.size, 0, none⟩) 0 0) 0 [] := ⟨rfl, .inr ⟨wa.heap.size, 0, #[], rfl, hSx.size, Blk.new _ _ _, Nat.le_refl _, Nat.zero_le _, rfl, rfl⟩⟩
                refine stepQ.mk ⟨fun _ => hSx', ?_⟩
                have hxb := hxa.alloc (.cells #[] 68)
                refine wpK_step 3 (by kernel_rfl) rfl ?_
                refine L3.wpList_append_any _ rfl (.tmp 51) (.tmp 53) 28 rfl (w.heap.size + 3) 68 i0 _ 16 152 Try.underlying28 hi hz0 hz1 hz2 rfl (by decide) (.slice (some ⟨wa.heap.size, 0, none⟩) 0 0) 0 [] rfl hzb (wa.alloc (.cells #[] 68)).heap.size A z c (L.flatMap enL) rfl (by have := (HRD.out.below hSx'.bw).reads (f := enL) (k := 16) enL_len; rw [← HZ.out] at this; exact this) HONE.out (by unfold maxLen; omega) (by omega) hSx'.size ?_
                intro v5 w5 hr5 hg5 hat5
                simp only [Nat.zero_add, List.nil_append] at hr5
                obtain ⟨A5, c5, rfl, _⟩ := L6.row_reads hr5
                have T5 := hSx'.grown hg5 (fun g e => (hzb.lt g e).1)
                have hr5' : w5.ownsRow (w.heap.size + 3) 68 16 (.slice A5 z c5) z (L.flatMap enL) := hr5
                go_wp2
                refine stepQ.mk ⟨fun _ => T5, ?_⟩
                have hx5 : Blk w5 ga 68 (enC ⟨n, b, true⟩) := hxb.grown hg5 (fun e => by simp only [Value.ownBlock, Option.some.injEq] at e; omega)
                refine wpK_step 9 (by kernel_rfl) rfl ?_
                refine L3.wpList_append_any _ rfl (.tmp 54) (.tmp 59) 28 rfl (w.heap.size + 3) 68 i0 _ 16 152 Try.underlying28 hi hz0 hz1 hz2 rfl (by decide) (.slice A5 z c5) z (L.flatMap enL) rfl hr5' (ga + 1) (some ⟨ga, 0, none⟩) 1 1 (enL ⟨n, b, true⟩) rfl (reads_one (k := 16) rfl hx5) (one_enL _) (by unfold maxLen; omega) (by omega) T5.size ?_
                intro v9 w9 hr9 hg9 hat9
                have T9 := T5.grown hg9 (fun g e => (hr5'.lt g e).1)
                obtain ⟨g9, c9, rfl, _⟩ := own_open hr9 (by omega)
                have hr10 : OwnE w9 (w.heap.size + 3) g9 (z + 1) c9 (L ++ [⟨n, b, true⟩]) := by
                  unfold OwnE
                  rw [flat_one.1, flat_one.2, ← HZ.out]
                  exact hr9
                have HPL := Lib.hid (put_list T9 hr10)
                have s3 := T9.tb.cell 3
                have f3 := T9.tb.frozen 3
                clear hr9 hat9 hr10
                go_wp2
                refine stepQ.mk ⟨fun _ => T9, ?_⟩
                refine wpK_seq [10, 11] _ _ _ (by kernel_rfl) ?_
                conv => arg 4; simp [pick]
                go_wp2
                go_meet
                case rel => exact ⟨g9, c9, HPL.out.1, by rw [← HL.out]; exact HPL.out.2⟩
            case rest =>
              obtain ⟨g9, c9, hP9, hr9⟩ := hcut
              have hLS : S.L = L := HL.out.symm
              have h1S := HWF.out.one
              have hone1 : OneN r (S.L ++ [⟨n, b, true⟩]) := by
                have := HWF.out.one
                rw [HROOT.out] at this
                exact one_snoc this (fun e => HNK.out (.inl e)) (fun e => HNK.out (.inr e))
              have hst := in_start (n := n) (b := b) (by have := HWF.out.ok; rw [HROOT.out] at this; exact this) HVS.out
              obtain ⟨L1, hL1⟩ : ∃ L1, L1 = S.L ++ [⟨n, b, true⟩] := ⟨_, rfl⟩
              rw [← hL1] at hr9 hone1 hst HE
              obtain ⟨N, hN⟩ : ∃ N, N = z + 1 := ⟨_, rfl⟩
              rw [← hN] at hP9 hr9
              have hI0 : InAt w m r rd g9 N c9 b L1 L1 wc := ⟨hP9, hr9, rfl, hst⟩
              have HONE1 := Lib.hid hone1
              have hNz : N ≤ 1000000 := by omega
              obtain ⟨ad, had⟩ : ∃ ad : Addr, ad = ⟨g9, 0, none⟩ := ⟨_, rfl⟩
              have HAD := Lib.hid had
              have HHAS2 := Lib.hid (fun M X p v (h : InAt w m r rd g9 N c9 b L1 M X) (hv : decide (hasV r M p) = v) => by
                have h2 := rhas_any m r rd (some ⟨g9, 0, none⟩) c9 M p X h.row.rd.2.1 (h.tw.one hone1).1 (by have := h.len; omega)
                rw [hv, ← h.len, ← had] at h2
                exact h2)
              have HI0 := Lib.hid hI0
              clear hP9 hr9 hLS h1S hone1 hst hL1 hN had hI0 HONE HLOW HLOWE HREF HPARTS HKNOWN HIN HFULL HORPH HRD HWF HVS HNK HQ HS HL HZ HN1 P5 hi hz0 hz1 hz2
              go_wp2
              go_loopw [11] (fun s11 wr => ∃ (bb : Bool) (M : List Ent), s11 = .bool bb ∧ InAt w m r rd g9 N c9 b L1 M wr ∧ (bb = false → ∀ j (hj : j < M.length), M[j].isin = false → ¬ hasV r M M[j].p)) (fun s11 wr => match s11 with | .bool true => orphW g9 wr N + 1 | _ => 0)
              case atStart => exact ⟨true, L1, rfl, HI0.out, fun h => (nomatch h)⟩
              case round =>
                obtain ⟨bb, M, rfl, hI, hno⟩ := hrel
                cases bb with
                | false =>
                  have hM := hI.end_ HONE1.out (hno rfl)
                  rw [← hM] at HE
                  have tb9 := hI.pu.tb
                  have re9 := hI.pu.re
                  have HI := Lib.hid hI
                  clear hM hno hI
                  go_wp2_with (first
                    | (refine wpList_row_at rfl _ _ rfl w.heap.size rfl _ _ _ _ tb9 Try.underlying30 rfl rtInfo ?_)
                    | (refine wpList_store_row rfl _ _ _ rfl (w.heap.size + 2) (rtC m r rd (some ⟨g9, 0, none⟩) N c9) rfl rfl _ _ re9 rtInfo rfl (rtC_ones _ _ _ _ _ _) ?_)
                    | go_in)
                  (try simp only [Exit.inBlock, Exit.then])
                  refine bodyPost_ret (results_row2 rfl _ _ (w.heap.size + 2) rfl _ rfl _ (rtC m r rd (some ⟨g9, 0, none⟩) N c9) _ _ (blk_setRow re9) Try.underlying30 rfl rtInfo) rfl ?_
                  rw [HE.out.1, HE.out.2]
                  have hfin := rt_newE (A := A) (m := m) (r := r) (rd := rd) (k := 0) (g := w.heap.size + 2) HI.out.row HI.out.pu.bw (by omega) (by omega)
                  exact hfin
                | true =>
                  have HIO := Lib.hid hI
                  have HML := Lib.hid hI.len
                  clear hno hI
                  go_wp2
                  go_loopw [11, 12] (fun s11 s12 wi => ∃ (k : Nat) (b2 : Bool) (M2 : List Ent), s12 = .int .i64 k ∧ s11 = .bool b2 ∧ k ≤ N ∧ InAt w m r rd g9 N c9 b L1 M2 wi ∧ Hid ((b2 = true → orph M2 < orph M) ∧ (b2 = false → M2 = M ∧ ∀ j (hj : j < M.length), j < k → M[j].isin = false → ¬ hasV r M M[j].p))) (fun _ s12 _ => N - (RowKit.intOf s12).toNat)
                  case atStart => exact ⟨0, false, M, rfl, rfl, Nat.zero_le _, HIO.out, Lib.hid ⟨fun h => (nomatch h), fun _ => ⟨rfl, fun j hj h => absurd h (by omega)⟩⟩⟩
                  case round =>
                    obtain ⟨k, b2, M2, rfl, rfl, hk, hI2, hC⟩ := hrel
                    by_cases hlt : k < N
                    · have hkM : k < M2.length := by have := hI2.len; omega
                      obtain ⟨ad2, e2, hadl, c0, c6, c15, hcs⟩ := hI2.row.rd.2.1.entry hkM
                      injection e2 with e2
                      rw [← e2, ← HAD.out] at c6 c15 hadl
                      have hpl : ∀ X, PuAt w m r rd (some ⟨g9, 0, none⟩) N c9 b X → Blk X w.heap.size 30 (rtC m r rd (some ad) N c9) := fun X h => by rw [HAD.out]; exact h.tb
                      have tb := hpl _ hI2.pu
                      have HPL := Lib.hid hpl
                      have HI2 := Lib.hid hI2
                      obtain ⟨e0, he0⟩ : ∃ e0, e0 = M2[k] := ⟨_, rfl⟩
                      rw [← he0] at c6 c15
                      obtain ⟨bi, hbi⟩ : ∃ bi, bi = e0.isin := ⟨_, rfl⟩
                      obtain ⟨p, hp⟩ : ∃ p, p = e0.b.p := ⟨_, rfl⟩
                      rw [← hbi] at c15
                      rw [← hp] at c6
                      have HBI : Hid (∃ h : k < M2.length, bi = M2[k].isin ∧ p = M2[k].p) := Lib.hid ⟨hkM, by rw [hbi, he0], by rw [hp, he0]⟩
                      clear hbi hp he0 c0 hcs e2 hI2 hkM hpl
                      have c3 : wr.cell? ⟨w.heap.size, 3, none⟩ = some (.slice (some ad) N c9) := tb.cell 3
                      go_upto_region 20 with fail
                      clear c3
                      refine wp_region_S (Below wr.heap.size wr) (by kernel_rfl) (by kernel_rfl) (Below.refl wr.heap.size wr).drew ?_
                      have ne : Nonempty (WorldIn (Below wr.heap.size wr)) := ⟨⟨_, Below.refl wr.heap.size wr⟩⟩
                      have p3 : ∀ y : WorldIn (Below wr.heap.size wr), y.w.cell? ⟨w.heap.size, 3, none⟩ = some (.slice (some ad) N c9) := fun y => (tb.below y.h tb.lt).cell 3
                      have p6 : ∀ y : WorldIn (Below wr.heap.size wr), y.w.cell? ⟨(ad.add (k * 16)).block, (ad.add (k * 16)).off + 6, none⟩ = some (.int .i64 p) := fun y => (y.h.cell (by show (ad.add (k * 16)).block < _; rw [block_of_add]; exact hadl)).trans c6
                      have p15 : ∀ y : WorldIn (Below wr.heap.size wr), y.w.cell? ⟨(ad.add (k * 16)).block, (ad.add (k * 16)).off + 15, none⟩ = some (.bool bi) := fun y => (y.h.cell (by show (ad.add (k * 16)).block < _; rw [block_of_add]; exact hadl)).trans c15
                      cases bi with
                      | true =>
                        repeat go_big_quiet_step (fail)
                        refine wpQuiet_nil ?_
                        intro zz
                        obtain ⟨W, hW⟩ := zz
                        dsimp only
                        clear p3 p6 p15 ne c6 c15 tb
                        go_wp2
                        go_roundw
                        case rel => exact ⟨k + 1, b2, M2, by go_num, rfl, by omega, HI2.out.below hW, Lib.hid ⟨hC.out.1, fun h => ⟨(hC.out.2 h).1, fun j hj hjk hi => by
                          by_cases c : j < k
                          · exact (hC.out.2 h).2 j hj c hi
                          · obtain rfl : j = k := by omega
                            obtain ⟨hq, hb, _⟩ := HBI.out
                            have hM := (hC.out.2 h).1
                            subst hM
                            rw [hi] at hb; cases hb⟩⟩⟩
                        case measure => simp [RowKit.intOf]; omega
                      | false =>
                        obtain ⟨v, hv⟩ : ∃ v, v = decide (hasV r M2 p) := ⟨_, rfl⟩
                        have HV := Lib.hid hv
                        have HF := Lib.hid (fun X (h : Below wr.heap.size wr X) => HHAS2.out M2 X p v (HI2.out.below h) hv.symm)
                        clear hv
                        repeat (first
                          | (refine wpQuiet_row rfl _ _ rfl w.heap.size rfl _ _ _ _ (fun y => tb.below y.h tb.lt) Try.underlying30 rfl rtInfo ?_
                             conv => arg 6; simp only [Act.put, List.setIfInBounds_toArray, List.set_cons_zero, List.set_cons_succ])
                          | (refine wpQuiet_fn rfl 23 _ _ rfl Try.call23 [.agg (rtC m r rd (some ad) N c9), .int .i64 p] rfl (v := .bool v) (fun y => (HF.out y.w y.h).mono fun e w' ⟨he, hb⟩ => ⟨he, nxt y.h hb⟩) ?_
                             conv => arg 6; simp only [Act.put, List.setIfInBounds_toArray, List.set_cons_zero, List.set_cons_succ])
                          | go_big_quiet_step (fail))
                        refine wpQuiet_nil ?_
                        intro zz
                        obtain ⟨W, hW⟩ := zz
                        dsimp only
                        have s3 : W.cell? ⟨w.heap.size, 3, none⟩ = some (.slice (some ad) N c9) := p3 ⟨W, hW⟩
                        have s15 : W.cell? ⟨(ad.add (k * 16)).block, (ad.add (k * 16)).off + 15, none⟩ = some (.bool false) := p15 ⟨W, hW⟩
                        have HIW := Lib.hid (HI2.out.below hW)
                        have HADD := Lib.hid (fun j => add_at (i := k * 16) HAD.out j)
                        have f15 : W.frozen? ⟨(ad.add (k * 16)).block, (ad.add (k * 16)).off + 15, none⟩ = false := by
                          rw [HADD.out]
                          exact own_frozen HIW.out.row (k * 16 + 15)
                        clear p3 p6 p15 ne c6 c15 tb
                        cases v with
                        | false =>
                          clear s3 s15 f15
                          go_wp2
                          go_roundw
                          case rel => exact ⟨k + 1, b2, M2, by go_num, rfl, by omega, HIW.out, Lib.hid ⟨hC.out.1, fun h => ⟨(hC.out.2 h).1, fun j hj hjk hi => by
                            by_cases c : j < k
                            · exact (hC.out.2 h).2 j hj c hi
                            · obtain rfl : j = k := by omega
                              obtain ⟨hq, _, hp⟩ := HBI.out
                              have hM := (hC.out.2 h).1
                              subst hM
                              rw [← hp]
                              exact of_decide_eq_false HV.out.symm⟩⟩⟩
                          case measure => simp [RowKit.intOf]; omega
                        | true =>
                          have hco : ∃ M3, InAt w m r rd g9 N c9 b L1 M3 (W.setCell ⟨(ad.add (k * 16)).block, (ad.add (k * 16)).off + 15, none⟩ (.bool true)) ∧ orph M3 < orph M2 := by
                            rw [HADD.out]
                            obtain ⟨hq, hb, hp⟩ := HBI.out
                            exact ⟨_, HIW.out.come HONE1.out hq hb.symm (by rw [← hp]; exact of_decide_eq_true HV.out.symm)⟩
                          obtain ⟨M3, hco⟩ := hco
                          have HCO := Lib.hid hco
                          clear hco
                          go_wp2
                          go_roundw
                          case rel => exact ⟨k + 1, true, _, by go_num, rfl, by omega, HCO.out.1, Lib.hid ⟨fun _ => by
                            have h2 := HCO.out.2
                            cases b2 with
                            | true => have := hC.out.1 rfl; omega
                            | false => rw [(hC.out.2 rfl).1] at h2; exact h2, fun h => (nomatch h)⟩⟩
                          case measure => simp [RowKit.intOf]; omega
                    · obtain rfl : k = N := by omega
                      have c3 : wr.cell? ⟨w.heap.size, 3, none⟩ = some (.slice (some ⟨g9, 0, none⟩) k c9) := hI2.pu.tb.cell 3
                      have HO1 := Lib.hid HIO.out.orph
                      have HO2 := Lib.hid hI2.orph
                      have HI2 := Lib.hid hI2
                      clear hI2
                      cases b2 with
                      | true =>
                        go_wp2
                        go_roundw
                        case rel => exact ⟨true, M2, rfl, HI2.out, fun h => (nomatch h)⟩
                        case measure =>
                          have h2 := hC.out.1 rfl
                          simp only
                          rw [HO1.out, HO2.out]
                          omega
                      | false =>
                        have hC2 := hC.out.2 rfl
                        have HC2 := Lib.hid hC2
                        clear hC hC2
                        go_wp2
                        go_roundw
                        case rel => exact ⟨false, M2, rfl, HI2.out, fun _ j hj hi => by
                          have hM := HC2.out.1
                          subst hM
                          exact HC2.out.2 j hj (by have := HML.out; omega) hi⟩
                        case measure => simp only; omega
          | false =>
            have hvv : ¬ hasV r L b.p := of_decide_eq_false HV.out.symm
            have hvS : ¬ hasV r S.L b.p := by rw [← HL.out]; exact hvv
            have HVS := Lib.hid hvS
            have HO := Lib.hid (fun X (h : PuAt w m r rd A z c b X) => HORP.out X h.bw)
            obtain ⟨om, hom⟩ : ∃ om : Int, om = (orph L : Int) := ⟨_, rfl⟩
            rw [← hom] at HO
            have HOM := Lib.hid (show om = (orph S.L : Int) by rw [hom, HL.out])
            clear hvv hvS hom HV HHAS HORP HAT
            have hS := hP4.drew
            refine wp_region_S (PuAt w m r rd A z c b) (by kernel_rfl) (by kernel_rfl) hS ?_
            have ne : Nonempty (WorldIn (PuAt w m r rd A z c b)) := ⟨⟨_, hS⟩⟩
            have p0 : ∀ y : WorldIn (PuAt w m r rd A z c b), y.w.cell? ⟨w.heap.size, 0, none⟩ = some (.int .i64 m) := fun y => y.h.tb.cell 0
            by_cases hm : m ≤ om
            · have hge : om ≥ m := hm
              have HE : Hid (putE S n b = 101 ∧ putS S n b = S) := Lib.hid (HFULL.out HQ.out HVS.out (by have := HOM.out; omega))
              repeat (first
                | (refine wpQuiet_row rfl _ _ rfl w.heap.size rfl _ _ _ _ (fun y => y.h.tb) Try.underlying30 rfl rtInfo ?_
                   conv => arg 6; simp only [Act.put, List.setIfInBounds_toArray, List.set_cons_zero, List.set_cons_succ])
                | (refine wpQuiet_fn rfl 24 _ _ rfl Try.call24 [.agg (rtC m r rd A z c)] rfl (v := .int .i64 om) (fun y => (HO.out y.w y.h).mono fun e w' ⟨he, hb⟩ => ⟨he, y.h.below hb⟩) ?_
                   conv => arg 6; simp only [Act.put, List.setIfInBounds_toArray, List.set_cons_zero, List.set_cons_succ])
                | go_big_quiet_step (fail))
              refine wpQuiet_nil ?_
              intro zz
              obtain ⟨W, P5⟩ := zz
              dsimp only
              clear p0 ne hS hP4 hm
              go_upto_region 10 with fail
              have tb9 := P5.tb
              have re9 := P5.re
              go_wp2_with (first
                | (refine wpList_row_at rfl _ _ rfl w.heap.size rfl _ _ _ _ tb9 Try.underlying30 rfl rtInfo ?_)
                | (refine wpList_store_row rfl _ _ _ rfl (w.heap.size + 2) (rtC m r rd A z c) rfl rfl _ _ re9 rtInfo rfl (rtC_ones _ _ _ _ _ _) ?_)
                | go_in)
              (try simp only [Exit.inBlock, Exit.then])
              refine bodyPost_ret (results_row2 rfl _ _ (w.heap.size + 2) rfl _ rfl _ (rtC m r rd A z c) _ _ (blk_setRow re9) Try.underlying30 rfl rtInfo) rfl ?_
              rw [HE.out.1, HE.out.2]
              exact HS.out _ _ P5.bw
            · have hlt : ¬ om ≥ m := hm
              have HE : Hid (putE S n b = 150 ∧ putS S n b = ⟨m, r, rd, S.L ++ [⟨n, b, false⟩]⟩) := Lib.hid (HORPH.out HQ.out HVS.out (by have := HOM.out; omega))
              repeat (first
                | (refine wpQuiet_row rfl _ _ rfl w.heap.size rfl _ _ _ _ (fun y => y.h.tb) Try.underlying30 rfl rtInfo ?_
                   conv => arg 6; simp only [Act.put, List.setIfInBounds_toArray, List.set_cons_zero, List.set_cons_succ])
                | (refine wpQuiet_fn rfl 24 _ _ rfl Try.call24 [.agg (rtC m r rd A z c)] rfl (v := .int .i64 om) (fun y => (HO.out y.w y.h).mono fun e w' ⟨he, hb⟩ => ⟨he, y.h.below hb⟩) ?_
                   conv => arg 6; simp only [Act.put, List.setIfInBounds_toArray, List.set_cons_zero, List.set_cons_succ])
                | go_big_quiet_step (fail))
              refine wpQuiet_nil ?_
              intro zz
              obtain ⟨W, P5⟩ := zz
              dsimp only
              clear p0 ne hS hP4 hm
              go_upto_region 11 with fail
              have hone : ∀ u ∈ L.flatMap enL, u.oneCell' = true := by intro u hu; obtain ⟨x, _, hx⟩ := List.mem_flatMap.1 hu; exact one_enL x u hx
              have HONE := Lib.hid hone
              clear hone
              go_cut [] from 51 to 61 (fun wx => ∃ g9 c9, PuAt w m r rd (some ⟨g9, 0, none⟩) (z + 1) c9 b wx ∧ OwnE wx (w.heap.size + 3) g9 (z + 1) c9 (S.L ++ [⟨n, b, false⟩]))
              case first =>
                have hS := P5.drew
                refine wp_region_K (PuAt w m r rd A z c b) [1, 2, 4, 5, 6, 7] (by kernel_rfl) ?_
                refine wpK_quiet (f := 6) (by kernel_rfl) (fun _ x _ _ _ h => by cases x <;> exact h) hS [1, 2, 4, 5, 6, 7] _ _ (by kernel_rfl) (by kernel_rfl) (by kernel_rfl) ?_
                have ne : Nonempty (WorldIn (PuAt w m r rd A z c b)) := ⟨⟨_, hS⟩⟩
                have p1 : ∀ y : WorldIn (PuAt w m r rd A z c b), y.w.cell? ⟨w.heap.size, 3, none⟩ = some (.slice A z c) := fun y => y.h.tb.cell 3
                conv => arg 5; simp [pick]
                iterate 3 go_big_quiet_step (fail)
                refine wpQuiet_row rfl _ _ rfl (w.heap.size + 1) rfl _ _ _ _ (fun y => y.h.bb) Try.underlying39 rfl blInfo ?_
                conv => arg 6; simp only [Act.put, List.setIfInBounds_toArray, List.set_cons_zero, List.set_cons_succ]
                go_big_quiet_step (fail)
                refine wpQuiet_build rfl _ _ rfl #[(0, .int .i64 n), (1, .agg (blC b)), (2, .bool false)] rfl (fun W => build_en n b false W) ?_
                conv => arg 6; simp only [Act.put, List.setIfInBounds_toArray, List.set_cons_zero, List.set_cons_succ]
                refine wpQuiet_nil ?_
                clear p1
                obtain ⟨w3, hw3⟩ : ∃ w3, w3 = W.drew := ⟨_, rfl⟩
                rw [← hw3] at hS
                rw [← hw3]
                clear hw3 P5
                refine wpK_two 0 8 (by kernel_rfl) rfl rfl ?_ ?_
                · refine wpList_buildSlice rfl _ _ _ rfl #[] rfl (slice_no w3) ?_
                  go_wp2
                  have hS' := hS.alloc (.cells #[] 68)
                  have hza : (w3.alloc (.cells #[] 68)).ownsRow (w.heap.size + 3) 68 16 (.slice (some ⟨w3.heap.size, 0, none⟩) 0 0) 0 [] := ⟨rfl, .inr ⟨w3.heap.size, 0, #[], rfl, hS.size, Blk.new _ _ _, Nat.le_refl _, Nat.zero_le _, rfl, rfl⟩⟩
                  refine stepQ.mk ⟨fun _ => hS', ?_⟩
                  obtain ⟨wa, hwa2⟩ : ∃ wa, wa = w3.alloc (.cells #[] 68) := ⟨_, rfl⟩
                  obtain ⟨ga, hga⟩ : ∃ ga, ga = w3.heap.size := ⟨_, rfl⟩
                  rw [← hwa2] at hS' hza
                  rw [← hga] at hza
                  rw [← hwa2, ← hga]
                  clear hwa2 hga
                  refine wpK_two 3 8 (by kernel_rfl) rfl rfl ?_ ?_
                  · refine L3.wpList_append_any _ rfl (.tmp 51) (.tmp 53) 28 rfl (w.heap.size + 3) 68 i0 _ 16 152 Try.underlying28 hi hz0 hz1 hz2 rfl (by decide) (.slice (some ⟨ga, 0, none⟩) 0 0) 0 [] rfl hza wa.heap.size A z c (L.flatMap enL) rfl (by have := (HRD.out.below hS'.bw).reads (f := enL) (k := 16) enL_len; rw [← HZ.out] at this; exact this) HONE.out (by unfold maxLen; omega) (by omega) hS'.size ?_
                    intro v5 w5 hr5 hg5 hat5
                    simp only [Nat.zero_add, List.nil_append] at hr5
                    obtain ⟨A5, c5, rfl, _⟩ := L6.row_reads hr5
                    have T5 := hS'.grown hg5 (fun g e => (hza.lt g e).1)
                    have hr5' : w5.ownsRow (w.heap.size + 3) 68 16 (.slice A5 z c5) z (L.flatMap enL) := hr5
                    go_wp2
                    refine stepQ.mk ⟨fun _ => T5, ?_⟩
                    refine wpK_step 8 (by kernel_rfl) rfl ?_
                    refine wpList_buildSlice rfl _ _ _ rfl #[(0, .agg (enC ⟨n, b, false⟩))] rfl (slice_en _ w5) ?_
                    go_wp2
                    have T5x := T5.alloc (.cells (enC ⟨n, b, false⟩) 68)
                    refine stepQ.mk ⟨fun _ => T5x, ?_⟩
                    have hx5 := box_of w5 ⟨n, b, false⟩
                    have hrx := hr5'.alloc (.cells (enC ⟨n, b, false⟩) 68)
                    refine wpK_step 9 (by kernel_rfl) rfl ?_
                    refine L3.wpList_append_any _ rfl (.tmp 54) (.tmp 59) 28 rfl (w.heap.size + 3) 68 i0 _ 16 152 Try.underlying28 hi hz0 hz1 hz2 rfl (by decide) (.slice A5 z c5) z (L.flatMap enL) rfl hrx (w5.heap.size + 1) (some ⟨w5.heap.size, 0, none⟩) 1 1 (enL ⟨n, b, false⟩) rfl (reads_one (k := 16) rfl hx5) (one_enL _) (by unfold maxLen; omega) (by omega) T5x.size ?_
                    intro v9 w9 hr9 hg9 hat9
                    have T9 := T5x.grown hg9 (fun g e => (hrx.lt g e).1)
                    obtain ⟨g9, c9, rfl, _⟩ := own_open hr9 (by omega)
                    have hr10 : OwnE w9 (w.heap.size + 3) g9 (z + 1) c9 (L ++ [⟨n, b, false⟩]) := by
                      unfold OwnE
                      rw [flat_one.1, flat_one.2, ← HZ.out]
                      exact hr9
                    have HPL := Lib.hid (put_list T9 hr10)
                    have s3 := T9.tb.cell 3
                    have f3 := T9.tb.frozen 3
                    clear hr9 hat9 hr10
                    go_wp2
                    refine stepQ.mk ⟨fun _ => T9, ?_⟩
                    refine wpK_seq [10, 11] _ _ _ (by kernel_rfl) ?_
                    conv => arg 4; simp [pick]
                    go_wp2
                    go_meet
                    case rel => exact ⟨g9, c9, HPL.out.1, by rw [← HL.out]; exact HPL.out.2⟩
                  · refine wpList_buildSlice rfl _ _ _ rfl #[(0, .agg (enC ⟨n, b, false⟩))] rfl (slice_en _ wa) ?_
                    go_wp2
                    have hSx := hS'.alloc (.cells (enC ⟨n, b, false⟩) 68)
                    refine stepQ.mk ⟨fun _ => hSx, ?_⟩
                    have hxa := box_of wa ⟨n, b, false⟩
                    have hzx := hza.alloc (.cells (enC ⟨n, b, false⟩) 68)
                    refine wpK_step 3 (by kernel_rfl) rfl ?_
                    refine L3.wpList_append_any _ rfl (.tmp 51) (.tmp 53) 28 rfl (w.heap.size + 3) 68 i0 _ 16 152 Try.underlying28 hi hz0 hz1 hz2 rfl (by decide) (.slice (some ⟨ga, 0, none⟩) 0 0) 0 [] rfl hzx (wa.alloc (.cells (enC ⟨n, b, false⟩) 68)).heap.size A z c (L.flatMap enL) rfl (by have := (HRD.out.below hSx.bw).reads (f := enL) (k := 16) enL_len; rw [← HZ.out] at this; exact this) HONE.out (by unfold maxLen; omega) (by omega) hSx.size ?_
                    intro v5 w5 hr5 hg5 hat5
                    simp only [Nat.zero_add, List.nil_append] at hr5
                    obtain ⟨A5, c5, rfl, _⟩ := L6.row_reads hr5
                    have T5 := hSx.grown hg5 (fun g e => (hzx.lt g e).1)
                    have hr5' : w5.ownsRow (w.heap.size + 3) 68 16 (.slice A5 z c5) z (L.flatMap enL) := hr5
                    go_wp2
                    refine stepQ.mk ⟨fun _ => T5, ?_⟩
                    have hx5 : Blk w5 wa.heap.size 68 (enC ⟨n, b, false⟩) := hxa.grown hg5 (fun e => by have := (hza.lt ga rfl).2; simp only [Value.ownBlock, Option.some.injEq] at e; omega)
                    refine wpK_step 9 (by kernel_rfl) rfl ?_
                    refine L3.wpList_append_any _ rfl (.tmp 54) (.tmp 59) 28 rfl (w.heap.size + 3) 68 i0 _ 16 152 Try.underlying28 hi hz0 hz1 hz2 rfl (by decide) (.slice A5 z c5) z (L.flatMap enL) rfl hr5' (wa.heap.size + 1) (some ⟨wa.heap.size, 0, none⟩) 1 1 (enL ⟨n, b, false⟩) rfl (reads_one (k := 16) rfl hx5) (one_enL _) (by unfold maxLen; omega) (by omega) T5.size ?_
                    intro v9 w9 hr9 hg9 hat9
                    have T9 := T5.grown hg9 (fun g e => (hr5'.lt g e).1)
                    obtain ⟨g9, c9, rfl, _⟩ := own_open hr9 (by omega)
                    have hr10 : OwnE w9 (w.heap.size + 3) g9 (z + 1) c9 (L ++ [⟨n, b, false⟩]) := by
                      unfold OwnE
                      rw [flat_one.1, flat_one.2, ← HZ.out]
                      exact hr9
                    have HPL := Lib.hid (put_list T9 hr10)
                    have s3 := T9.tb.cell 3
                    have f3 := T9.tb.frozen 3
                    clear hr9 hat9 hr10
                    go_wp2
                    refine stepQ.mk ⟨fun _ => T9, ?_⟩
                    refine wpK_seq [10, 11] _ _ _ (by kernel_rfl) ?_
                    conv => arg 4; simp [pick]
                    go_wp2
                    go_meet
                    case rel => exact ⟨g9, c9, HPL.out.1, by rw [← HL.out]; exact HPL.out.2⟩
                · refine wpList_buildSlice rfl _ _ _ rfl #[(0, .agg (enC ⟨n, b, false⟩))] rfl (slice_en _ w3) ?_
                  go_wp2
                  have hSx := hS.alloc (.cells (enC ⟨n, b, false⟩) 68)
                  refine stepQ.mk ⟨fun _ => hSx, ?_⟩
                  have hxa := box_of w3 ⟨n, b, false⟩
                  obtain ⟨wa, hwa2⟩ : ∃ wa, wa = w3.alloc (.cells (enC ⟨n, b, false⟩) 68) := ⟨_, rfl⟩
                  obtain ⟨ga, hga⟩ : ∃ ga, ga = w3.heap.size := ⟨_, rfl⟩
                  rw [← hwa2] at hSx hxa
                  rw [← hga] at hxa
                  rw [← hwa2, ← hga]
                  clear hwa2 hga
                  have hgl := hxa.lt
                  refine wpK_step 0 (by kernel_rfl) rfl ?_
                  refine wpList_buildSlice rfl _ _ _ rfl #[] rfl (slice_no wa) ?_
                  go_wp2
                  have hSx' := hSx.alloc (.cells #[] 68)
                  have hzb : (wa.alloc (.cells #[] 68)).ownsRow (w.heap.size + 3) 68 16 (.slice (some ⟨wa.heap.size, 0, none⟩) 0 0) 0 [] := ⟨rfl, .inr ⟨wa.heap.size, 0, #[], rfl, hSx.size, Blk.new _ _ _, Nat.le_refl _, Nat.zero_le _, rfl, rfl⟩⟩
                  refine stepQ.mk ⟨fun _ => hSx', ?_⟩
                  have hxb := hxa.alloc (.cells #[] 68)
                  refine wpK_step 3 (by kernel_rfl) rfl ?_
                  refine L3.wpList_append_any _ rfl (.tmp 51) (.tmp 53) 28 rfl (w.heap.size + 3) 68 i0 _ 16 152 Try.underlying28 hi hz0 hz1 hz2 rfl (by decide) (.slice (some ⟨wa.heap.size, 0, none⟩) 0 0) 0 [] rfl hzb (wa.alloc (.cells #[] 68)).heap.size A z c (L.flatMap enL) rfl (by have := (HRD.out.below hSx'.bw).reads (f := enL) (k := 16) enL_len; rw [← HZ.out] at this; exact this) HONE.out (by unfold maxLen; omega) (by omega) hSx'.size ?_
                  intro v5 w5 hr5 hg5 hat5
                  simp only [Nat.zero_add, List.nil_append] at hr5
                  obtain ⟨A5, c5, rfl, _⟩ := L6.row_reads hr5
                  have T5 := hSx'.grown hg5 (fun g e => (hzb.lt g e).1)
                  have hr5' : w5.ownsRow (w.heap.size + 3) 68 16 (.slice A5 z c5) z (L.flatMap enL) := hr5
                  go_wp2
                  refine stepQ.mk ⟨fun _ => T5, ?_⟩
                  have hx5 : Blk w5 ga 68 (enC ⟨n, b, false⟩) := hxb.grown hg5 (fun e => by simp only [Value.ownBlock, Option.some.injEq] at e; omega)
                  refine wpK_step 9 (by kernel_rfl) rfl ?_
                  refine L3.wpList_append_any _ rfl (.tmp 54) (.tmp 59) 28 rfl (w.heap.size + 3) 68 i0 _ 16 152 Try.underlying28 hi hz0 hz1 hz2 rfl (by decide) (.slice A5 z c5) z (L.flatMap enL) rfl hr5' (ga + 1) (some ⟨ga, 0, none⟩) 1 1 (enL ⟨n, b, false⟩) rfl (reads_one (k := 16) rfl hx5) (one_enL _) (by unfold maxLen; omega) (by omega) T5.size ?_
                  intro v9 w9 hr9 hg9 hat9
                  have T9 := T5.grown hg9 (fun g e => (hr5'.lt g e).1)
                  obtain ⟨g9, c9, rfl, _⟩ := own_open hr9 (by omega)
                  have hr10 : OwnE w9 (w.heap.size + 3) g9 (z + 1) c9 (L ++ [⟨n, b, false⟩]) := by
                    unfold OwnE
                    rw [flat_one.1, flat_one.2, ← HZ.out]
                    exact hr9
                  have HPL := Lib.hid (put_list T9 hr10)
                  have s3 := T9.tb.cell 3
                  have f3 := T9.tb.frozen 3
                  clear hr9 hat9 hr10
                  go_wp2
                  refine stepQ.mk ⟨fun _ => T9, ?_⟩
                  refine wpK_seq [10, 11] _ _ _ (by kernel_rfl) ?_
                  conv => arg 4; simp [pick]
                  go_wp2
                  go_meet
                  case rel => exact ⟨g9, c9, HPL.out.1, by rw [← HL.out]; exact HPL.out.2⟩
              case rest =>
                obtain ⟨g9, c9, hP9, hr9⟩ := hcut
                have tb9 := hP9.tb
                have re9 := hP9.re
                have HP9 := Lib.hid hP9
                have HR9 := Lib.hid hr9
                clear hP9 hr9
                go_upto_region 13 with fail
                go_wp2_with (first
                  | (refine wpList_row_at rfl _ _ rfl w.heap.size rfl _ _ _ _ tb9 Try.underlying30 rfl rtInfo ?_)
                  | (refine wpList_store_row rfl _ _ _ rfl (w.heap.size + 2) (rtC m r rd (some ⟨g9, 0, none⟩) (z + 1) c9) rfl rfl _ _ re9 rtInfo rfl (rtC_ones _ _ _ _ _ _) ?_)
                  | go_in)
                (try simp only [Exit.inBlock, Exit.then])
                refine bodyPost_ret (results_row2 rfl _ _ (w.heap.size + 2) rfl _ rfl _ (rtC m r rd (some ⟨g9, 0, none⟩) (z + 1) c9) _ _ (blk_setRow re9) Try.underlying30 rfl rtInfo) rfl ?_
                rw [HE.out.1, HE.out.2]
                have hfin := rt_newE (A := A) (m := m) (r := r) (rd := rd) (k := 150) (g := w.heap.size + 2) HR9.out HP9.out.bw (by omega) (by omega)
                exact hfin
end Go.Proofs.Ytgclofemhhhepaa
