/-
  One more is wanted: the document.
-/
import Derived.Test.YtglnocclhhdbbaaRfGot
set_option linter.unusedSimpArgs false
set_option linter.unusedVariables false
set_option maxRecDepth 10000
namespace Go.Proofs.Ytglnocclhhdbbaa
open Go.RowKit Go.Lib
open L3 (Blk Reads block_of_add add_of_add)
open L6 (Turn moreB fresh From In)

set_option maxHeartbeats 4000000 in
set_option maxRecDepth 100000 in
theorem rwant_any (s : FS) (A B : Option Addr) (c d : Nat) (n : Int) (w : World) (hA : RdI w A (numsOf s.L)) (hB : RdI w B (timsOf s.L)) (hz : s.L.length ≤ 16) (hs : risingW s.L) :
    Calls Try.prog 10 #[.agg (rfV s (.slice A s.L.length c) (.slice B s.L.length d)), .int .i64 n] w (RFPost A B { s with L := wantL s n } (wantE s n) w) := by
  obtain ⟨i0, hi, hz0, hz1, hz2⟩ := info_parts intInfo
  have HA := Lib.hid hA
  have HS := Lib.hid hs
  clear hs
  have HB := Lib.hid hB
  have HH := Lib.hid (fun W (hb : Below w.heap.size w W) => (show Calls Try.prog 25 #[.agg (rfV s (.slice A s.L.length c) (.slice B s.L.length d)), .int .i64 n] W (gives (.bool (decide (wanted s.L n))) W) from by
    have := rhas_any s A c (.slice B s.L.length d) (numsOf s.L) n W (hA.below hb) (by rw [nums_len]; omega)
    rw [nums_len] at this
    have e : decide (n ∈ numsOf s.L) = decide (wanted s.L n) := decide_eq_decide.2 wanted_nums.symm
    rw [e] at this
    exact this))
  obtain ⟨z, hzz⟩ : ∃ z, z = s.L.length := ⟨_, rfl⟩
  obtain ⟨t, ht⟩ : ∃ t, t = decide (wanted s.L n) := ⟨_, rfl⟩
  rw [← hzz, ← ht] at HH
  rw [← hzz] at hz ⊢
  have HZ := Lib.hid hzz
  have HT := Lib.hid ht
  have k0 : Blk ((w.alloc (.cells (rfV s (.slice A z c) (.slice B z d)) 30)).alloc (.cells (rfV zeroFS (.slice none 0 0) (.slice none 0 0)) 30)) w.heap.size 30 (rfV s (.slice A z c) (.slice B z d)) := (rfNew w _ _ _).alloc _
  have k1 : Blk ((w.alloc (.cells (rfV s (.slice A z c) (.slice B z d)) 30)).alloc (.cells (rfV zeroFS (.slice none 0 0) (.slice none 0 0)) 30)) (w.heap.size + 1) 30 (rfV zeroFS (.slice none 0 0) (.slice none 0 0)) := by simpa using rfNew (w.alloc (.cells (rfV s (.slice A z c) (.slice B z d)) 30)) zeroFS (.slice none 0 0) (.slice none 0 0)
  have hb0 : Below w.heap.size w ((w.alloc (.cells (rfV s (.slice A z c) (.slice B z d)) 30)).alloc (.cells (rfV zeroFS (.slice none 0 0) (.slice none 0 0)) 30)) := (below_new w _).alloc (by simp) _
  have hs0 : ((w.alloc (.cells (rfV s (.slice A z c) (.slice B z d)) 30)).alloc (.cells (rfV zeroFS (.slice none 0 0) (.slice none 0 0)) 30)).heap.size = w.heap.size + 2 := by simp
  obtain ⟨W0, hW0⟩ : ∃ W0, W0 = (w.alloc (.cells (rfV s (.slice A z c) (.slice B z d)) 30)).alloc (.cells (rfV zeroFS (.slice none 0 0) (.slice none 0 0)) 30) := ⟨_, rfl⟩
  rw [← hW0] at k0 k1 hb0 hs0
  have hE : (w.alloc (.cells (rfV s (.slice A z c) (.slice B z d)) 30)).alloc (.cells #[.int .i64 0, .int .i64 0, .int .i64 0, .int .i64 0, .slice none 0 0, .slice none 0 0] 30) = W0 := hW0.symm
  clear hA hB hzz ht hW0
  by_cases h1 : n < 1
  · have HE : Hid (wantE s n = 1) := Lib.hid (if_pos h1)
    go_enter Try.func10, Try.ntmps10
    go_upto_region 1 with fail
    clear hE
    have hb2 := Below.refl W0.heap.size W0
    have q1 := k1
    go_wp2_with (first
      | (refine wpList_row_at rfl _ _ rfl w.heap.size rfl _ _ _ _ k0 Try.underlying30 rfl rfInfo ?_)
      | (refine wpList_store_row rfl _ _ _ rfl (w.heap.size + 1) (rfV s (.slice A z c) (.slice B z d)) rfl rfl _ _ q1 rfInfo rfl (rfV_ones _ _ _ _ _ _ _) ?_)
      | go_in)
    (try simp only [Exit.inBlock, Exit.then])
    refine bodyPost_ret (results_row2 rfl _ _ (w.heap.size + 1) rfl _ rfl _ (rfV s (.slice A z c) (.slice B z d)) _ _ (blk_setRow q1) Try.underlying30 rfl rfInfo) rfl ?_
    have hbz := below_setRow (cs := rfV s (.slice A z c) (.slice B z d)) (nxt hb0 hb2) (Nat.le_succ w.heap.size)
    rw [wantL_not (by rw [HE.out]; decide), HE.out]
    exact ⟨A, c, B, d, by rw [HZ.out]; rfl, HA.out.below hbz, HB.out.below hbz, fun ad e => .inl e, fun ad e => .inl e, hbz⟩
  · cases t with
    | true =>
      have HE : Hid (wantE s n = 100) := Lib.hid (by unfold wantE; rw [if_neg h1, if_pos (of_decide_eq_true HT.out.symm)])
      go_enter Try.func10, Try.ntmps10
      go_upto_region 1 with fail
      clear hE
      go_upto_region 4 with (first
        | (refine wpList_row_at rfl _ _ rfl w.heap.size rfl _ _ _ _ k0 Try.underlying30 rfl rfInfo ?_)
        | (go_at_call 25; refine (HH.out _ hb0).mono ?_; unfold gives; rintro e w2 ⟨rfl, hb2⟩)
        | go_in)
      have q0 := k0.below hb2 k0.lt
      have q1 := k1.below hb2 k1.lt
      go_wp2_with (first
        | (refine wpList_row_at rfl _ _ rfl w.heap.size rfl _ _ _ _ q0 Try.underlying30 rfl rfInfo ?_)
        | (refine wpList_store_row rfl _ _ _ rfl (w.heap.size + 1) (rfV s (.slice A z c) (.slice B z d)) rfl rfl _ _ q1 rfInfo rfl (rfV_ones _ _ _ _ _ _ _) ?_)
        | go_in)
      (try simp only [Exit.inBlock, Exit.then])
      refine bodyPost_ret (results_row2 rfl _ _ (w.heap.size + 1) rfl _ rfl _ (rfV s (.slice A z c) (.slice B z d)) _ _ (blk_setRow q1) Try.underlying30 rfl rfInfo) rfl ?_
      have hbz := below_setRow (cs := rfV s (.slice A z c) (.slice B z d)) (nxt hb0 hb2) (Nat.le_succ w.heap.size)
      rw [wantL_not (by rw [HE.out]; decide), HE.out]
      exact ⟨A, c, B, d, by rw [HZ.out]; rfl, HA.out.below hbz, HB.out.below hbz, fun ad e => .inl e, fun ad e => .inl e, hbz⟩
    | false =>
      have hnw : ¬ wanted s.L n := of_decide_eq_false HT.out.symm
      have HE0 : Hid (wantE s n = if s.most ≤ (z : Int) then 101 else 0) := Lib.hid (by unfold wantE; rw [if_neg h1, if_neg hnw, HZ.out])
      go_enter Try.func10, Try.ntmps10
      go_upto_region 1 with fail
      clear hE
      go_upto_region 5 with (first
        | (refine wpList_row_at rfl _ _ rfl w.heap.size rfl _ _ _ _ k0 Try.underlying30 rfl rfInfo ?_)
        | (go_at_call 25; refine (HH.out _ hb0).mono ?_; unfold gives; rintro e w2 ⟨rfl, hb2⟩)
        | go_in)
      have q0 := k0.below hb2 k0.lt
      have q1 := k1.below hb2 k1.lt
      have cm : w2.cell? ⟨w.heap.size, 2, none⟩ = some (.int .i64 s.most) := q0.cell 2
      have cn : w2.cell? ⟨w.heap.size, 4, none⟩ = some (.slice A z c) := q0.cell 4
      by_cases h3 : s.most ≤ (z : Int)
      · have HE := Lib.hid (HE0.out.trans (if_pos h3))
        go_wp2_with (first
          | (refine wpList_row_at rfl _ _ rfl w.heap.size rfl _ _ _ _ q0 Try.underlying30 rfl rfInfo ?_)
          | (refine wpList_store_row rfl _ _ _ rfl (w.heap.size + 1) (rfV s (.slice A z c) (.slice B z d)) rfl rfl _ _ q1 rfInfo rfl (rfV_ones _ _ _ _ _ _ _) ?_)
          | go_in)
        (try simp only [Exit.inBlock, Exit.then])
        refine bodyPost_ret (results_row2 rfl _ _ (w.heap.size + 1) rfl _ rfl _ (rfV s (.slice A z c) (.slice B z d)) _ _ (blk_setRow q1) Try.underlying30 rfl rfInfo) rfl ?_
        have hbz := below_setRow (cs := rfV s (.slice A z c) (.slice B z d)) (nxt hb0 hb2) (Nat.le_succ w.heap.size)
        rw [wantL_not (by rw [HE.out]; decide), HE.out]
        exact ⟨A, c, B, d, by rw [HZ.out]; rfl, HA.out.below hbz, HB.out.below hbz, fun ad e => .inl e, fun ad e => .inl e, hbz⟩
      · have HE := Lib.hid (HE0.out.trans (if_neg h3))
        have hrs := spot_le s.L n
        obtain ⟨r, hr⟩ : ∃ r, r = spot s.L n := ⟨_, rfl⟩
        rw [← hr, ← HZ.out] at hrs
        have HR := Lib.hid hr
        have HNW := Lib.hid hnw
        clear hr HE0 hnw
        go_upto_region 7 with fail
        clear cm cn h3
        have hbz := nxt hb0 hb2
        have hsz : w.heap.size + 2 ≤ w2.heap.size := by rw [← hs0]; exact hb2.size
        clear k0 k1 hb0 hb2 hs0 HH
        go_upto_region 8 with (first
          | (refine wpList_row_at rfl _ _ rfl w.heap.size rfl _ _ _ _ q0 Try.underlying30 rfl rfInfo ?_)
          | (refine wpList_store_new rfl _ _ _ rfl w2 (rfV s (.slice A z c) (.slice B z d)) rfl rfl 30 _ rfInfo rfl (rfV_ones _ _ _ _ _ _ _) ?_)
          | go_in)
        have hb3 := below_new w2 (.cells (rfV s (.slice A z c) (.slice B z d)) 30)
        have q2 := rfNew w2 s (.slice A z c) (.slice B z d)
        have p0 := q0.below hb3 q0.lt
        have p1 := q1.below hb3 q1.lt
        have hbz3 := nxt hbz hb3
        obtain ⟨w3, hw3⟩ : ∃ w3, w3 = w2.alloc (.cells (rfV s (.slice A z c) (.slice B z d)) 30) := ⟨_, rfl⟩
        rw [← hw3] at q2 p0 p1 hbz3 ⊢
        obtain ⟨b, hbb⟩ : ∃ b, b = w2.heap.size := ⟨_, rfl⟩
        rw [← hbb] at q2 hsz ⊢
        have c4 : w3.cell? ⟨b, 4, none⟩ = some (.slice A z c) := q2.cell 4
        have c5 : w3.cell? ⟨b, 5, none⟩ = some (.slice B z d) := q2.cell 5
        have f4 := q2.frozen 4
        have f5 := q2.frozen 5
        obtain ⟨br, hbr⟩ : ∃ br, br = w.heap.size + 1 := ⟨_, rfl⟩
        rw [← hbr] at p1 ⊢
        have HBR := Lib.hid hbr
        clear hbr
        obtain ⟨bx, hbx⟩ : ∃ bx, bx = w.heap.size := ⟨_, rfl⟩
        rw [← hbx] at p0 ⊢
        have HBX := Lib.hid hbx
        clear hw3 hbb q0 q1 hbz hb3 hbx
        go_upto_region 10 with fail
        have hT : Turn (fun i => i = b) w3 ((w3.setCell ⟨b, 4, none⟩ (.slice none 0 0)).setCell ⟨b, 5, none⟩ (.slice none 0 0)) := ((L6.Turn.refl (fun i => i = b) w3).setCell (p := ⟨b, 4, none⟩) (.inl rfl) _).setCell (p := ⟨b, 5, none⟩) (.inl rfl) _
        have hG0 : GAt w bx b br s (.slice A z c) (.slice B z d) (.slice none 0 0) (.slice none 0 0) [] [] ((w3.setCell ⟨b, 4, none⟩ (.slice none 0 0)).setCell ⟨b, 5, none⟩ (.slice none 0 0)) :=
          ⟨hT.blk p0 (by rw [HBX.out]; omega), YAt.start w s (hbz3.trans (hT.below (fun i e => by omega) hbz3.size)) ((q2.set_ 4 _).set_ 5 _) (by omega), by rw [HBX.out]; omega, hT.blk p1 (by rw [HBR.out]; omega), by rw [HBR.out]; omega⟩
        obtain ⟨w4, hw4⟩ : ∃ W, W = (w3.setCell ⟨b, 4, none⟩ (.slice none 0 0)).setCell ⟨b, 5, none⟩ (.slice none 0 0) := ⟨_, rfl⟩
        rw [← hw4] at hG0 ⊢
        have HG0 := Lib.hid hG0
        clear hw4 hT q2 p0 p1 c4 c5 f4 f5 hbz3 hG0
        go_wp2
        go_loopw [7, 8] (fun dn i wr => ∃ (k : Nat) (u v : Value), dn = .bool (decide (r < k)) ∧ i = .int .i64 k ∧ k ≤ z ∧ GAt w bx b br s (.slice A z c) (.slice B z d) u v (numsOf (wk s.L r ⟨n, 0⟩ k)) (timsOf (wk s.L r ⟨n, 0⟩ k)) wr) (fun _ i _ => z - (RowKit.intOf i).toNat)
        case atStart => exact ⟨0, _, _, rfl, rfl, Nat.zero_le _, by rw [wk_zero]; exact HG0.out⟩
        case round =>
          obtain ⟨k, u, v, rfl, rfl, hk, hG⟩ := hrel
          have rb : wr.cell? ⟨bx, 4, none⟩ = some (.slice A z c) := hG.x.cell 4
          have hFl := wk_len (L := s.L) (r := r) (x := ⟨n, 0⟩) (k := k)
          by_cases hlt : k < z
          · have hkL : k < s.L.length := by rw [← HZ.out]; exact hlt
            have hst1 := fun h => wk_lt (L := s.L) (r := r) (x := ⟨n, 0⟩) (k := k) h hkL
            have hst2 := fun h => wk_gt (L := s.L) (r := r) (x := ⟨n, 0⟩) (k := k) h hkL
            have hst3 : ∀ h : k = r, wk s.L r ⟨n, 0⟩ (k + 1) = wk s.L r ⟨n, 0⟩ k ++ [⟨n, 0⟩] ++ [s.L[k]] := fun h => by subst h; exact wk_at hkL
            have hlo : k < r → s.L[k].n < n := fun h => spot_lt HS.out (by rw [← HR.out]; exact h)
            have hhi : k = r → n < s.L[k].n := fun h => by
              have h1 := spot_ge HS.out (n := n) (t := k) (by rw [← HR.out]; omega) hkL
              have h2 : s.L[k].n ≠ n := fun e => HNW.out ⟨_, List.getElem_mem hkL, e⟩
              omega
            obtain ⟨ad4, hA4, hl4, hc4⟩ := RdI.cell HA.out (j := k) (by rw [nums_len]; exact hkL)
            obtain ⟨ad5, hA5, hl5, hc5⟩ := RdI.cell HB.out (j := k) (by rw [tims_len]; exact hkL)
            subst hA4 hA5
            rw [get_nums hkL] at hc4
            rw [get_tims hkL] at hc5
            obtain ⟨y, hy⟩ : ∃ y, y = s.L[k] := ⟨_, rfl⟩
            rw [← hy] at hc4 hc5 hst1 hst2 hst3 hlo hhi
            obtain ⟨F, hF⟩ : ∃ F, F = wk s.L r ⟨n, 0⟩ k := ⟨_, rfl⟩
            rw [← hF] at hG hst1 hst2 hst3 hFl
            clear hy hF hkL
            have ra : wr.cell? (ad4.add k) = some (.int .i64 y.n) := (hG.y.bw.cell (by rw [block_of_add]; exact hl4)).trans hc4
            obtain ⟨n0, hn0⟩ : ∃ n0, n0 = F.length := ⟨_, rfl⟩
            have hln : (numsOf F).length = n0 := by rw [nums_len, hn0]
            have hlm : (timsOf F).length = n0 := by rw [tims_len, hn0]
            have hmax : n0 + 1 ≤ maxLen := by unfold maxLen; omega
            have hn17 : n0 ≤ 17 := by omega
            obtain ⟨l0, m0⟩ := lists_snoc (L := F ++ [y]) (F := F) (y := y) rfl
            obtain ⟨l1, m1⟩ := lists_snoc (L := F ++ [⟨n, 0⟩]) (F := F) (y := ⟨n, 0⟩) rfl
            obtain ⟨l2, m2⟩ := lists_snoc (L := F ++ [⟨n, 0⟩] ++ [y]) (F := F ++ [⟨n, 0⟩]) (y := y) rfl
            rw [l1] at l2
            rw [m1] at m2
            have HLM := Lib.hid (And.intro l0 (And.intro m0 (And.intro l2 m2)))
            obtain ⟨l, hl⟩ : ∃ l, l = numsOf F := ⟨_, rfl⟩
            obtain ⟨m, hm⟩ : ∃ m, m = timsOf F := ⟨_, rfl⟩
            rw [← hl] at hG hln HLM
            rw [← hm] at hG hlm HLM
            clear hn0 hl hm l0 m0 l1 m1 l2 m2 hFl
            rcases Nat.lt_trichotomy k r with hkr | hkr | hkr
            · have HE2 := Lib.hid (hst1 hkr)
              rw [decide_eq_false (show ¬ r < k by omega)]
              have hyn : ¬ n < y.n := by have := hlo hkr; omega
              clear hst1 hst2 hst3 hlo hhi
              go_upto_region 18 with fail
              clear ra rb
              have hda := hG.below (Below.refl _ _).drew
              have hea : wr.drew.cell? (ad4.add k) = some (.int .i64 y.n) := (hda.y.bw.cell (by rw [block_of_add]; exact hl4)).trans hc4
              have hHa := hda.hold hea
              (try simp only [Act.put])
              refine wp_region_K (RdH bx b s (.slice (some ad4) z c) (.slice (some ad5) z d) u v (ad4.add k) (.int .i64 y.n)) [0, 1, 2, 3, 4, 5, 6] (by kernel_rfl) ?_
              refine wpK_quiet (f := 4) (by kernel_rfl) (fun _ x _ _ _ h => by cases x <;> exact h) hHa [0, 1, 2, 3, 4, 5, 6] _ _ (by kernel_rfl) (by kernel_rfl) (by kernel_rfl) ?_
              have nea : Nonempty (WorldIn (RdH bx b s (.slice (some ad4) z c) (.slice (some ad5) z d) u v (ad4.add k) (.int .i64 y.n))) := ⟨⟨_, hHa⟩⟩
              have g0a : ∀ h0 : WorldIn (RdH bx b s (.slice (some ad4) z c) (.slice (some ad5) z d) u v (ad4.add k) (.int .i64 y.n)), h0.w.cell? ⟨b, 4, none⟩ = some u := fun h0 => h0.h.y.cell 4
              have g1a : ∀ h0 : WorldIn (RdH bx b s (.slice (some ad4) z c) (.slice (some ad5) z d) u v (ad4.add k) (.int .i64 y.n)), h0.w.cell? ⟨bx, 4, none⟩ = some (.slice (some ad4) z c) := fun h0 => h0.h.x.cell 4
              have g2a : ∀ h0 : WorldIn (RdH bx b s (.slice (some ad4) z c) (.slice (some ad5) z d) u v (ad4.add k) (.int .i64 y.n)), h0.w.cell? (ad4.add k) = some (.int .i64 y.n) := fun h0 => h0.h.e
              conv => arg 5; simp [pick]
              repeat go_big_quiet_step (fail)
              refine wpQuiet_nil ?_
              clear nea g0a g1a g2a hea
              obtain ⟨wda, hwda⟩ : ∃ W, W = wr.drew := ⟨_, rfl⟩
              rw [← hwda] at hda hHa ⊢
              clear hwda
              refine wpK_step 7 (by kernel_rfl) rfl ?_
              have hbna := below_new wda (.cells #[.int .i64 y.n] 3)
              have hG2a := hda.below hbna
              have hH2a := hHa.below hbna
              go_wp2
              refine stepQ.mk ⟨fun _ => hH2a, ?_⟩
              refine wpK_step 8 (by kernel_rfl) rfl ?_
              have hroa := hG2a.y.o4
              unfold OwnI at hroa
              rw [hln] at hroa
              have hbaa := hG2a.y.bw.size
              refine wpList_append_own_at _ rfl _ _ 28 rfl w.heap.size 3 i0 (.int .i64 0) 1 8 Try.underlying28 hi hz0 hz1 hz2 rfl (by decide) _ _ _ rfl hroa ⟨wda.heap.size, 0, none⟩ 1 1 [.int .i64 y.n] rfl rfl (cell_one_new _ _ _) (ints_oneCell .i64 [y.n]) hmax (by omega) hbaa ?_
              intro v3a w3a hr3a hg3a _ hat3a
              obtain ⟨A3a, c3a, rfl⟩ := own_slice hr3a
              have hH3a := hH2a.grown hroa hg3a (by rw [block_of_add]; exact hl4)
              go_wp2
              refine stepQ.mk ⟨fun _ => hH3a, ?_⟩
              refine wpK_seq [9, 10] _ _ _ (by kernel_rfl) ?_
              conv => arg 4; simp [pick]
              have f4a := hH3a.y.frozen 4
              have c4a : w3a.cell? ⟨b, 4, none⟩ = some u := hH3a.y.cell 4
              have hG1 := hG2a.app4 hln hr3a hg3a hat3a
              clear hda hHa hG2a hH2a hH3a hroa hbaa hbna hr3a hg3a hat3a hG
              go_upto_region 19 with fail
              obtain ⟨w5, hwa⟩ : ∃ W, W = w3a.setCell ⟨b, 4, none⟩ (.slice A3a (n0 + 1) c3a) := ⟨_, rfl⟩
              rw [← hwa] at hG1
              rw [← hwa]
              clear hwa f4a c4a
              have hdb := hG1.below (Below.refl _ _).drew
              have heb : w5.drew.cell? (ad5.add k) = some (.int .i64 y.t) := (hdb.y.bw.cell (by rw [block_of_add]; exact hl5)).trans hc5
              have hHb := hdb.hold heb
              (try simp only [Act.put])
              refine wp_region_K (RdH bx b s (.slice (some ad4) z c) (.slice (some ad5) z d) (.slice A3a (n0 + 1) c3a) v (ad5.add k) (.int .i64 y.t)) [0, 1, 2, 3, 4, 5, 6] (by kernel_rfl) ?_
              refine wpK_quiet (f := 4) (by kernel_rfl) (fun _ x _ _ _ h => by cases x <;> exact h) hHb [0, 1, 2, 3, 4, 5, 6] _ _ (by kernel_rfl) (by kernel_rfl) (by kernel_rfl) ?_
              have neb : Nonempty (WorldIn (RdH bx b s (.slice (some ad4) z c) (.slice (some ad5) z d) (.slice A3a (n0 + 1) c3a) v (ad5.add k) (.int .i64 y.t))) := ⟨⟨_, hHb⟩⟩
              have g0b : ∀ h0 : WorldIn (RdH bx b s (.slice (some ad4) z c) (.slice (some ad5) z d) (.slice A3a (n0 + 1) c3a) v (ad5.add k) (.int .i64 y.t)), h0.w.cell? ⟨b, 5, none⟩ = some v := fun h0 => h0.h.y.cell 5
              have g1b : ∀ h0 : WorldIn (RdH bx b s (.slice (some ad4) z c) (.slice (some ad5) z d) (.slice A3a (n0 + 1) c3a) v (ad5.add k) (.int .i64 y.t)), h0.w.cell? ⟨bx, 5, none⟩ = some (.slice (some ad5) z d) := fun h0 => h0.h.x.cell 5
              have g2b : ∀ h0 : WorldIn (RdH bx b s (.slice (some ad4) z c) (.slice (some ad5) z d) (.slice A3a (n0 + 1) c3a) v (ad5.add k) (.int .i64 y.t)), h0.w.cell? (ad5.add k) = some (.int .i64 y.t) := fun h0 => h0.h.e
              conv => arg 5; simp [pick]
              repeat go_big_quiet_step (fail)
              refine wpQuiet_nil ?_
              clear neb g0b g1b g2b heb
              obtain ⟨wdb, hwdb⟩ : ∃ W, W = w5.drew := ⟨_, rfl⟩
              rw [← hwdb] at hdb hHb ⊢
              clear hwdb
              refine wpK_step 7 (by kernel_rfl) rfl ?_
              have hbnb := below_new wdb (.cells #[.int .i64 y.t] 3)
              have hG2b := hdb.below hbnb
              have hH2b := hHb.below hbnb
              go_wp2
              refine stepQ.mk ⟨fun _ => hH2b, ?_⟩
              refine wpK_step 8 (by kernel_rfl) rfl ?_
              have hrob := hG2b.y.o5
              unfold OwnI at hrob
              rw [hlm] at hrob
              have hbab := hG2b.y.bw.size
              refine wpList_append_own_at _ rfl _ _ 28 rfl w.heap.size 3 i0 (.int .i64 0) 1 8 Try.underlying28 hi hz0 hz1 hz2 rfl (by decide) _ _ _ rfl hrob ⟨wdb.heap.size, 0, none⟩ 1 1 [.int .i64 y.t] rfl rfl (cell_one_new _ _ _) (ints_oneCell .i64 [y.t]) hmax (by omega) hbab ?_
              intro v3b w3b hr3b hg3b _ hat3b
              obtain ⟨A3b, c3b, rfl⟩ := own_slice hr3b
              have hH3b := hH2b.grown hrob hg3b (by rw [block_of_add]; exact hl5)
              go_wp2
              refine stepQ.mk ⟨fun _ => hH3b, ?_⟩
              refine wpK_seq [9, 10] _ _ _ (by kernel_rfl) ?_
              conv => arg 4; simp [pick]
              have f4b := hH3b.y.frozen 5
              have c4b : w3b.cell? ⟨b, 5, none⟩ = some v := hH3b.y.cell 5
              have hG2 := hG2b.app5 hlm hr3b hg3b hat3b
              clear hdb hHb hG2b hH2b hH3b hrob hbab hbnb hr3b hg3b hat3b hG1
              go_wp2
              go_roundw
              case rel => exact ⟨k + 1, _, _, by rw [decide_eq_false (show ¬ r < k + 1 by omega)], by go_num, by omega, by rw [HE2.out, HLM.out.1, HLM.out.2.1]; exact hG2⟩
              case measure => simp [RowKit.intOf]; omega
            · have HE2 := Lib.hid (hst3 hkr)
              have hyn := hhi hkr
              rw [decide_eq_false (show ¬ r < k by omega)]
              have HKR := Lib.hid hkr
              clear hst1 hst2 hst3 hlo hhi hkr
              go_upto_region 15 with fail
              clear ra rb
              have c4a : wr.cell? ⟨b, 4, none⟩ = some u := hG.y.y.cell 4
              have hbna := below_new wr (.cells #[.int .i64 n] 3)
              have hG2a := hG.below hbna
              have hroa := hG2a.y.o4
              unfold OwnI at hroa
              rw [hln] at hroa
              have hbaa := hG2a.y.bw.size
              go_upto_region 16 with (first
                | (at_builtin; refine wpList_append_own_at _ rfl _ _ 28 rfl w.heap.size 3 i0 (.int .i64 0) 1 8 Try.underlying28 hi hz0 hz1 hz2 rfl (by decide) _ _ _ rfl hroa ⟨wr.heap.size, 0, none⟩ 1 1 [.int .i64 n] rfl rfl (cell_one_new _ _ _) (ints_oneCell .i64 [n]) hmax (by omega) hbaa ?_; intro v3a w3a hr3a hg3a _ hat3a
                   obtain ⟨A3a, c3a, rfl⟩ := own_slice hr3a
                   have hy3a := (L6.Turn.of_grown (S := fun i => (u).ownBlock = some i) hg3a (fun _ h => h)).blk hG2a.y.y (row_ne hroa hG2a.y.y (by decide))
                   have f4a := hy3a.frozen 4
                   have c5a : w3a.cell? ⟨b, 4, none⟩ = some u := hy3a.cell 4)
                | go_in)
              have hG1 := hG2a.app4 hln hr3a hg3a hat3a
              obtain ⟨w5, hwa⟩ : ∃ W, W = w3a.setCell ⟨b, 4, none⟩ (.slice A3a (n0 + 1) c3a) := ⟨_, rfl⟩
              rw [← hwa] at hG1
              rw [← hwa]
              clear hwa f4a c4a c5a hy3a hbaa hroa hG2a hbna hr3a hg3a hat3a hG
              have c4b : w5.cell? ⟨b, 5, none⟩ = some v := hG1.y.y.cell 5
              have hbnb := below_new w5 (.cells #[.int .i64 0] 3)
              have hG2b := hG1.below hbnb
              have hrob := hG2b.y.o5
              unfold OwnI at hrob
              rw [hlm] at hrob
              have hbab := hG2b.y.bw.size
              go_upto_region 18 with (first
                | (at_builtin; refine wpList_append_own_at _ rfl _ _ 28 rfl w.heap.size 3 i0 (.int .i64 0) 1 8 Try.underlying28 hi hz0 hz1 hz2 rfl (by decide) _ _ _ rfl hrob ⟨w5.heap.size, 0, none⟩ 1 1 [.int .i64 0] rfl rfl (cell_one_new _ _ _) (ints_oneCell .i64 [0]) hmax (by omega) hbab ?_; intro v3b w3b hr3b hg3b _ hat3b
                   obtain ⟨A3b, c3b, rfl⟩ := own_slice hr3b
                   have hy3b := (L6.Turn.of_grown (S := fun i => (v).ownBlock = some i) hg3b (fun _ h => h)).blk hG2b.y.y (row_ne hrob hG2b.y.y (by decide))
                   have f4b := hy3b.frozen 5
                   have c5b : w3b.cell? ⟨b, 5, none⟩ = some v := hy3b.cell 5)
                | go_in)
              have hG2 := hG2b.app5 hlm hr3b hg3b hat3b
              obtain ⟨w6, hwb⟩ : ∃ W, W = w3b.setCell ⟨b, 5, none⟩ (.slice A3b (n0 + 1) c3b) := ⟨_, rfl⟩
              rw [← hwb] at hG2
              rw [← hwb]
              clear hwb f4b c4b c5b hy3b hbab hrob hG2b hbnb hr3b hg3b hat3b hG1
              obtain ⟨l3, hl3⟩ : ∃ q, q = l ++ [n] := ⟨_, rfl⟩
              obtain ⟨m3, hm3⟩ : ∃ q, q = m ++ [(0 : Int)] := ⟨_, rfl⟩
              have hln3 : l3.length = n0 + 1 := by rw [hl3, List.length_append, hln]; rfl
              have hlm3 : m3.length = n0 + 1 := by rw [hm3, List.length_append, hlm]; rfl
              rw [← hl3] at hG2 HLM
              rw [← hm3] at hG2 HLM
              have hmax3 : n0 + 1 + 1 ≤ maxLen := by unfold maxLen; omega
              clear hl3 hm3
              have hdc := hG2.below (Below.refl _ _).drew
              have hec : w6.drew.cell? (ad4.add k) = some (.int .i64 y.n) := (hdc.y.bw.cell (by rw [block_of_add]; exact hl4)).trans hc4
              have hHc := hdc.hold hec
              (try simp only [Act.put])
              refine wp_region_K (RdH bx b s (.slice (some ad4) z c) (.slice (some ad5) z d) (.slice A3a (n0 + 1) c3a) (.slice A3b (n0 + 1) c3b) (ad4.add k) (.int .i64 y.n)) [0, 1, 2, 3, 4, 5, 6] (by kernel_rfl) ?_
              refine wpK_quiet (f := 4) (by kernel_rfl) (fun _ x _ _ _ h => by cases x <;> exact h) hHc [0, 1, 2, 3, 4, 5, 6] _ _ (by kernel_rfl) (by kernel_rfl) (by kernel_rfl) ?_
              have nec : Nonempty (WorldIn (RdH bx b s (.slice (some ad4) z c) (.slice (some ad5) z d) (.slice A3a (n0 + 1) c3a) (.slice A3b (n0 + 1) c3b) (ad4.add k) (.int .i64 y.n))) := ⟨⟨_, hHc⟩⟩
              have g0c : ∀ h0 : WorldIn (RdH bx b s (.slice (some ad4) z c) (.slice (some ad5) z d) (.slice A3a (n0 + 1) c3a) (.slice A3b (n0 + 1) c3b) (ad4.add k) (.int .i64 y.n)), h0.w.cell? ⟨b, 4, none⟩ = some (.slice A3a (n0 + 1) c3a) := fun h0 => h0.h.y.cell 4
              have g1c : ∀ h0 : WorldIn (RdH bx b s (.slice (some ad4) z c) (.slice (some ad5) z d) (.slice A3a (n0 + 1) c3a) (.slice A3b (n0 + 1) c3b) (ad4.add k) (.int .i64 y.n)), h0.w.cell? ⟨bx, 4, none⟩ = some (.slice (some ad4) z c) := fun h0 => h0.h.x.cell 4
              have g2c : ∀ h0 : WorldIn (RdH bx b s (.slice (some ad4) z c) (.slice (some ad5) z d) (.slice A3a (n0 + 1) c3a) (.slice A3b (n0 + 1) c3b) (ad4.add k) (.int .i64 y.n)), h0.w.cell? (ad4.add k) = some (.int .i64 y.n) := fun h0 => h0.h.e
              conv => arg 5; simp [pick]
              repeat go_big_quiet_step (fail)
              refine wpQuiet_nil ?_
              clear nec g0c g1c g2c hec
              obtain ⟨wdc, hwdc⟩ : ∃ W, W = w6.drew := ⟨_, rfl⟩
              rw [← hwdc] at hdc hHc ⊢
              clear hwdc
              refine wpK_step 7 (by kernel_rfl) rfl ?_
              have hbnc := below_new wdc (.cells #[.int .i64 y.n] 3)
              have hG2c := hdc.below hbnc
              have hH2c := hHc.below hbnc
              go_wp2
              refine stepQ.mk ⟨fun _ => hH2c, ?_⟩
              refine wpK_step 8 (by kernel_rfl) rfl ?_
              have hroc := hG2c.y.o4
              unfold OwnI at hroc
              rw [hln3] at hroc
              have hbac := hG2c.y.bw.size
              refine wpList_append_own_at _ rfl _ _ 28 rfl w.heap.size 3 i0 (.int .i64 0) 1 8 Try.underlying28 hi hz0 hz1 hz2 rfl (by decide) _ _ _ rfl hroc ⟨wdc.heap.size, 0, none⟩ 1 1 [.int .i64 y.n] rfl rfl (cell_one_new _ _ _) (ints_oneCell .i64 [y.n]) hmax3 (by omega) hbac ?_
              intro v3c w3c hr3c hg3c _ hat3c
              obtain ⟨A3c, c3c, rfl⟩ := own_slice hr3c
              have hH3c := hH2c.grown hroc hg3c (by rw [block_of_add]; exact hl4)
              go_wp2
              refine stepQ.mk ⟨fun _ => hH3c, ?_⟩
              refine wpK_seq [9, 10] _ _ _ (by kernel_rfl) ?_
              conv => arg 4; simp [pick]
              have f4c := hH3c.y.frozen 4
              have c4c : w3c.cell? ⟨b, 4, none⟩ = some (.slice A3a (n0 + 1) c3a) := hH3c.y.cell 4
              have hG3 := hG2c.app4 hln3 hr3c hg3c hat3c
              clear hdc hHc hG2c hH2c hH3c hroc hbac hbnc hr3c hg3c hat3c hG2
              go_upto_region 19 with fail
              obtain ⟨w7, hwc⟩ : ∃ W, W = w3c.setCell ⟨b, 4, none⟩ (.slice A3c ((n0 + 1) + 1) c3c) := ⟨_, rfl⟩
              rw [← hwc] at hG3
              rw [← hwc]
              clear hwc f4c c4c
              have hdd := hG3.below (Below.refl _ _).drew
              have hed : w7.drew.cell? (ad5.add k) = some (.int .i64 y.t) := (hdd.y.bw.cell (by rw [block_of_add]; exact hl5)).trans hc5
              have hHd := hdd.hold hed
              (try simp only [Act.put])
              refine wp_region_K (RdH bx b s (.slice (some ad4) z c) (.slice (some ad5) z d) (.slice A3c (n0 + 1 + 1) c3c) (.slice A3b (n0 + 1) c3b) (ad5.add k) (.int .i64 y.t)) [0, 1, 2, 3, 4, 5, 6] (by kernel_rfl) ?_
              refine wpK_quiet (f := 4) (by kernel_rfl) (fun _ x _ _ _ h => by cases x <;> exact h) hHd [0, 1, 2, 3, 4, 5, 6] _ _ (by kernel_rfl) (by kernel_rfl) (by kernel_rfl) ?_
              have ned : Nonempty (WorldIn (RdH bx b s (.slice (some ad4) z c) (.slice (some ad5) z d) (.slice A3c (n0 + 1 + 1) c3c) (.slice A3b (n0 + 1) c3b) (ad5.add k) (.int .i64 y.t))) := ⟨⟨_, hHd⟩⟩
              have g0d : ∀ h0 : WorldIn (RdH bx b s (.slice (some ad4) z c) (.slice (some ad5) z d) (.slice A3c (n0 + 1 + 1) c3c) (.slice A3b (n0 + 1) c3b) (ad5.add k) (.int .i64 y.t)), h0.w.cell? ⟨b, 5, none⟩ = some (.slice A3b (n0 + 1) c3b) := fun h0 => h0.h.y.cell 5
              have g1d : ∀ h0 : WorldIn (RdH bx b s (.slice (some ad4) z c) (.slice (some ad5) z d) (.slice A3c (n0 + 1 + 1) c3c) (.slice A3b (n0 + 1) c3b) (ad5.add k) (.int .i64 y.t)), h0.w.cell? ⟨bx, 5, none⟩ = some (.slice (some ad5) z d) := fun h0 => h0.h.x.cell 5
              have g2d : ∀ h0 : WorldIn (RdH bx b s (.slice (some ad4) z c) (.slice (some ad5) z d) (.slice A3c (n0 + 1 + 1) c3c) (.slice A3b (n0 + 1) c3b) (ad5.add k) (.int .i64 y.t)), h0.w.cell? (ad5.add k) = some (.int .i64 y.t) := fun h0 => h0.h.e
              conv => arg 5; simp [pick]
              repeat go_big_quiet_step (fail)
              refine wpQuiet_nil ?_
              clear ned g0d g1d g2d hed
              obtain ⟨wdd, hwdd⟩ : ∃ W, W = w7.drew := ⟨_, rfl⟩
              rw [← hwdd] at hdd hHd ⊢
              clear hwdd
              refine wpK_step 7 (by kernel_rfl) rfl ?_
              have hbnd := below_new wdd (.cells #[.int .i64 y.t] 3)
              have hG2d := hdd.below hbnd
              have hH2d := hHd.below hbnd
              go_wp2
              refine stepQ.mk ⟨fun _ => hH2d, ?_⟩
              refine wpK_step 8 (by kernel_rfl) rfl ?_
              have hrod := hG2d.y.o5
              unfold OwnI at hrod
              rw [hlm3] at hrod
              have hbad := hG2d.y.bw.size
              refine wpList_append_own_at _ rfl _ _ 28 rfl w.heap.size 3 i0 (.int .i64 0) 1 8 Try.underlying28 hi hz0 hz1 hz2 rfl (by decide) _ _ _ rfl hrod ⟨wdd.heap.size, 0, none⟩ 1 1 [.int .i64 y.t] rfl rfl (cell_one_new _ _ _) (ints_oneCell .i64 [y.t]) hmax3 (by omega) hbad ?_
              intro v3d w3d hr3d hg3d _ hat3d
              obtain ⟨A3d, c3d, rfl⟩ := own_slice hr3d
              have hH3d := hH2d.grown hrod hg3d (by rw [block_of_add]; exact hl5)
              go_wp2
              refine stepQ.mk ⟨fun _ => hH3d, ?_⟩
              refine wpK_seq [9, 10] _ _ _ (by kernel_rfl) ?_
              conv => arg 4; simp [pick]
              have f4d := hH3d.y.frozen 5
              have c4d : w3d.cell? ⟨b, 5, none⟩ = some (.slice A3b (n0 + 1) c3b) := hH3d.y.cell 5
              have hG4 := hG2d.app5 hlm3 hr3d hg3d hat3d
              clear hdd hHd hG2d hH2d hH3d hrod hbad hbnd hr3d hg3d hat3d hG3
              go_wp2
              go_roundw
              case rel => exact ⟨k + 1, _, _, by rw [decide_eq_true (show r < k + 1 by have := HKR.out; omega)], by go_num, by omega, by rw [HE2.out, HLM.out.2.2.1, HLM.out.2.2.2]; exact hG4⟩
              case measure => simp [RowKit.intOf]; omega
            · have HE2 := Lib.hid (hst2 hkr)
              rw [decide_eq_true hkr]
              clear hst1 hst2 hst3 hlo hhi
              go_upto_region 18 with fail
              clear ra rb
              have hda := hG.below (Below.refl _ _).drew
              have hea : wr.drew.cell? (ad4.add k) = some (.int .i64 y.n) := (hda.y.bw.cell (by rw [block_of_add]; exact hl4)).trans hc4
              have hHa := hda.hold hea
              (try simp only [Act.put])
              refine wp_region_K (RdH bx b s (.slice (some ad4) z c) (.slice (some ad5) z d) u v (ad4.add k) (.int .i64 y.n)) [0, 1, 2, 3, 4, 5, 6] (by kernel_rfl) ?_
              refine wpK_quiet (f := 4) (by kernel_rfl) (fun _ x _ _ _ h => by cases x <;> exact h) hHa [0, 1, 2, 3, 4, 5, 6] _ _ (by kernel_rfl) (by kernel_rfl) (by kernel_rfl) ?_
              have nea : Nonempty (WorldIn (RdH bx b s (.slice (some ad4) z c) (.slice (some ad5) z d) u v (ad4.add k) (.int .i64 y.n))) := ⟨⟨_, hHa⟩⟩
              have g0a : ∀ h0 : WorldIn (RdH bx b s (.slice (some ad4) z c) (.slice (some ad5) z d) u v (ad4.add k) (.int .i64 y.n)), h0.w.cell? ⟨b, 4, none⟩ = some u := fun h0 => h0.h.y.cell 4
              have g1a : ∀ h0 : WorldIn (RdH bx b s (.slice (some ad4) z c) (.slice (some ad5) z d) u v (ad4.add k) (.int .i64 y.n)), h0.w.cell? ⟨bx, 4, none⟩ = some (.slice (some ad4) z c) := fun h0 => h0.h.x.cell 4
              have g2a : ∀ h0 : WorldIn (RdH bx b s (.slice (some ad4) z c) (.slice (some ad5) z d) u v (ad4.add k) (.int .i64 y.n)), h0.w.cell? (ad4.add k) = some (.int .i64 y.n) := fun h0 => h0.h.e
              conv => arg 5; simp [pick]
              repeat go_big_quiet_step (fail)
              refine wpQuiet_nil ?_
              clear nea g0a g1a g2a hea
              obtain ⟨wda, hwda⟩ : ∃ W, W = wr.drew := ⟨_, rfl⟩
              rw [← hwda] at hda hHa ⊢
              clear hwda
              refine wpK_step 7 (by kernel_rfl) rfl ?_
              have hbna := below_new wda (.cells #[.int .i64 y.n] 3)
              have hG2a := hda.below hbna
              have hH2a := hHa.below hbna
              go_wp2
              refine stepQ.mk ⟨fun _ => hH2a, ?_⟩
              refine wpK_step 8 (by kernel_rfl) rfl ?_
              have hroa := hG2a.y.o4
              unfold OwnI at hroa
              rw [hln] at hroa
              have hbaa := hG2a.y.bw.size
              refine wpList_append_own_at _ rfl _ _ 28 rfl w.heap.size 3 i0 (.int .i64 0) 1 8 Try.underlying28 hi hz0 hz1 hz2 rfl (by decide) _ _ _ rfl hroa ⟨wda.heap.size, 0, none⟩ 1 1 [.int .i64 y.n] rfl rfl (cell_one_new _ _ _) (ints_oneCell .i64 [y.n]) hmax (by omega) hbaa ?_
              intro v3a w3a hr3a hg3a _ hat3a
              obtain ⟨A3a, c3a, rfl⟩ := own_slice hr3a
              have hH3a := hH2a.grown hroa hg3a (by rw [block_of_add]; exact hl4)
              go_wp2
              refine stepQ.mk ⟨fun _ => hH3a, ?_⟩
              refine wpK_seq [9, 10] _ _ _ (by kernel_rfl) ?_
              conv => arg 4; simp [pick]
              have f4a := hH3a.y.frozen 4
              have c4a : w3a.cell? ⟨b, 4, none⟩ = some u := hH3a.y.cell 4
              have hG1 := hG2a.app4 hln hr3a hg3a hat3a
              clear hda hHa hG2a hH2a hH3a hroa hbaa hbna hr3a hg3a hat3a hG
              go_upto_region 19 with fail
              obtain ⟨w5, hwa⟩ : ∃ W, W = w3a.setCell ⟨b, 4, none⟩ (.slice A3a (n0 + 1) c3a) := ⟨_, rfl⟩
              rw [← hwa] at hG1
              rw [← hwa]
              clear hwa f4a c4a
              have hdb := hG1.below (Below.refl _ _).drew
              have heb : w5.drew.cell? (ad5.add k) = some (.int .i64 y.t) := (hdb.y.bw.cell (by rw [block_of_add]; exact hl5)).trans hc5
              have hHb := hdb.hold heb
              (try simp only [Act.put])
              refine wp_region_K (RdH bx b s (.slice (some ad4) z c) (.slice (some ad5) z d) (.slice A3a (n0 + 1) c3a) v (ad5.add k) (.int .i64 y.t)) [0, 1, 2, 3, 4, 5, 6] (by kernel_rfl) ?_
              refine wpK_quiet (f := 4) (by kernel_rfl) (fun _ x _ _ _ h => by cases x <;> exact h) hHb [0, 1, 2, 3, 4, 5, 6] _ _ (by kernel_rfl) (by kernel_rfl) (by kernel_rfl) ?_
              have neb : Nonempty (WorldIn (RdH bx b s (.slice (some ad4) z c) (.slice (some ad5) z d) (.slice A3a (n0 + 1) c3a) v (ad5.add k) (.int .i64 y.t))) := ⟨⟨_, hHb⟩⟩
              have g0b : ∀ h0 : WorldIn (RdH bx b s (.slice (some ad4) z c) (.slice (some ad5) z d) (.slice A3a (n0 + 1) c3a) v (ad5.add k) (.int .i64 y.t)), h0.w.cell? ⟨b, 5, none⟩ = some v := fun h0 => h0.h.y.cell 5
              have g1b : ∀ h0 : WorldIn (RdH bx b s (.slice (some ad4) z c) (.slice (some ad5) z d) (.slice A3a (n0 + 1) c3a) v (ad5.add k) (.int .i64 y.t)), h0.w.cell? ⟨bx, 5, none⟩ = some (.slice (some ad5) z d) := fun h0 => h0.h.x.cell 5
              have g2b : ∀ h0 : WorldIn (RdH bx b s (.slice (some ad4) z c) (.slice (some ad5) z d) (.slice A3a (n0 + 1) c3a) v (ad5.add k) (.int .i64 y.t)), h0.w.cell? (ad5.add k) = some (.int .i64 y.t) := fun h0 => h0.h.e
              conv => arg 5; simp [pick]
              repeat go_big_quiet_step (fail)
              refine wpQuiet_nil ?_
              clear neb g0b g1b g2b heb
              obtain ⟨wdb, hwdb⟩ : ∃ W, W = w5.drew := ⟨_, rfl⟩
              rw [← hwdb] at hdb hHb ⊢
              clear hwdb
              refine wpK_step 7 (by kernel_rfl) rfl ?_
              have hbnb := below_new wdb (.cells #[.int .i64 y.t] 3)
              have hG2b := hdb.below hbnb
              have hH2b := hHb.below hbnb
              go_wp2
              refine stepQ.mk ⟨fun _ => hH2b, ?_⟩
              refine wpK_step 8 (by kernel_rfl) rfl ?_
              have hrob := hG2b.y.o5
              unfold OwnI at hrob
              rw [hlm] at hrob
              have hbab := hG2b.y.bw.size
              refine wpList_append_own_at _ rfl _ _ 28 rfl w.heap.size 3 i0 (.int .i64 0) 1 8 Try.underlying28 hi hz0 hz1 hz2 rfl (by decide) _ _ _ rfl hrob ⟨wdb.heap.size, 0, none⟩ 1 1 [.int .i64 y.t] rfl rfl (cell_one_new _ _ _) (ints_oneCell .i64 [y.t]) hmax (by omega) hbab ?_
              intro v3b w3b hr3b hg3b _ hat3b
              obtain ⟨A3b, c3b, rfl⟩ := own_slice hr3b
              have hH3b := hH2b.grown hrob hg3b (by rw [block_of_add]; exact hl5)
              go_wp2
              refine stepQ.mk ⟨fun _ => hH3b, ?_⟩
              refine wpK_seq [9, 10] _ _ _ (by kernel_rfl) ?_
              conv => arg 4; simp [pick]
              have f4b := hH3b.y.frozen 5
              have c4b : w3b.cell? ⟨b, 5, none⟩ = some v := hH3b.y.cell 5
              have hG2 := hG2b.app5 hlm hr3b hg3b hat3b
              clear hdb hHb hG2b hH2b hH3b hrob hbab hbnb hr3b hg3b hat3b hG1
              go_wp2
              go_roundw
              case rel => exact ⟨k + 1, _, _, by rw [decide_eq_true (show r < k + 1 by omega)], by go_num, by omega, by rw [HE2.out, HLM.out.1, HLM.out.2.1]; exact hG2⟩
              case measure => simp [RowKit.intOf]; omega
          · obtain rfl : k = z := by omega
            by_cases hrz : r < k
            · have e := wk_in (L := s.L) (r := r) (x := ⟨n, 0⟩) (by rw [← HZ.out]; exact hrz)
              rw [← HZ.out] at e
              rw [e] at hG
              rw [decide_eq_true hrz]
              clear e
              have hq4 := hG.y.y
              have hq1 := hG.r
              obtain ⟨A', c', hu, hA', hAb⟩ := OwnI.rd hG.y.o4
              obtain ⟨B', d', hv, hB', hBb⟩ := OwnI.rd hG.y.o5
              rw [hu, hv] at hG
              rw [hu, hv, nums_len, tims_len] at hq4
              rw [nums_len, tims_len] at hG
              obtain ⟨N, hN⟩ : ∃ N, N = (insAt s.L r ⟨n, 0⟩).length := ⟨_, rfl⟩
              rw [← hN] at hq4 hG
              have HN := Lib.hid hN
              have hbz := hG.y.bw
              have HGG := Lib.hid hG
              clear hN hG
              go_wp2_with (first
                | (refine wpList_row_at rfl _ _ rfl b rfl _ _ _ _ hq4 Try.underlying30 rfl rfInfo ?_)
                | (refine wpList_store_row rfl _ _ _ rfl br (rfV s (.slice A' N c') (.slice B' N d')) rfl rfl _ _ hq1 rfInfo rfl (rfV_ones _ _ _ _ _ _ _) ?_)
                | go_in)
              (try simp only [Exit.inBlock, Exit.then])
              refine bodyPost_ret (results_row2 rfl _ _ br rfl _ rfl _ (rfV s (.slice A' N c') (.slice B' N d')) _ _ (blk_setRow hq1) Try.underlying30 rfl rfInfo) rfl ?_
              have hrw := turn_row wr br (rfV s (.slice A' N c') (.slice B' N d'))
              have hbf := below_setRow (cs := rfV s (.slice A' N c') (.slice B' N d')) hbz (show w.heap.size ≤ br by rw [HBR.out]; omega)
              have o4 := hrw.row HGG.out.y.o4 (fun i h1 h2 => row_ne HGG.out.y.o4 hq1 (by decide) (by rw [h1, h2]))
              have o5 := hrw.row HGG.out.y.o5 (fun i h1 h2 => row_ne HGG.out.y.o5 hq1 (by decide) (by rw [h1, h2]))
              obtain ⟨A2, c2, eA, hA2, hAb2⟩ := OwnI.rd (l := numsOf (insAt s.L r ⟨n, 0⟩)) o4
              obtain ⟨B2, d2, eB, hB2, hBb2⟩ := OwnI.rd (l := timsOf (insAt s.L r ⟨n, 0⟩)) o5
              injection eA with eA1 _ _
              injection eB with eB1 _ _
              subst eA1 eB1
              have hLX : wantL s n = insAt s.L r ⟨n, 0⟩ := by
                unfold wantL
                rw [if_pos HE.out, insW_is HS.out HNW.out, HR.out]
              rw [hLX, HE.out]
              exact ⟨A', c', B', d', by rw [HN.out]; rfl, hA2, hB2, fun ad e => .inr (hAb2 ad e), fun ad e => .inr (hBb2 ad e), hbf⟩
            · have e := wk_end (L := s.L) (r := r) (x := ⟨n, 0⟩) (by rw [← HZ.out]; omega)
              rw [← HZ.out] at e
              obtain ⟨l1, m1⟩ := lists_snoc (L := insAt s.L r ⟨n, 0⟩) (F := wk s.L r ⟨n, 0⟩ k) (y := ⟨n, 0⟩) e.symm
              rw [decide_eq_false hrz]
              obtain ⟨F, hF⟩ : ∃ F, F = wk s.L r ⟨n, 0⟩ k := ⟨_, rfl⟩
              rw [← hF] at hG hFl l1 m1
              obtain ⟨n0, hn0⟩ : ∃ n0, n0 = F.length := ⟨_, rfl⟩
              have hln : (numsOf F).length = n0 := by rw [nums_len, hn0]
              have hlm : (timsOf F).length = n0 := by rw [tims_len, hn0]
              have hmax : n0 + 1 ≤ maxLen := by unfold maxLen; omega
              have hn17 : n0 ≤ 17 := by omega
              obtain ⟨l, hl⟩ : ∃ l, l = numsOf F := ⟨_, rfl⟩
              obtain ⟨m, hm⟩ : ∃ m, m = timsOf F := ⟨_, rfl⟩
              rw [← hl] at hG hln l1
              rw [← hm] at hG hlm m1
              have HLM := Lib.hid (And.intro l1 m1)
              clear hn0 hl hm hF e l1 m1 hFl
              go_upto_region 21 with fail
              have c4a : wr.cell? ⟨b, 4, none⟩ = some u := hG.y.y.cell 4
              have hbna := below_new wr (.cells #[.int .i64 n] 3)
              have hG2a := hG.below hbna
              have hroa := hG2a.y.o4
              unfold OwnI at hroa
              rw [hln] at hroa
              have hbaa := hG2a.y.bw.size
              go_upto_region 22 with (first
                | (at_builtin; refine wpList_append_own_at _ rfl _ _ 28 rfl w.heap.size 3 i0 (.int .i64 0) 1 8 Try.underlying28 hi hz0 hz1 hz2 rfl (by decide) _ _ _ rfl hroa ⟨wr.heap.size, 0, none⟩ 1 1 [.int .i64 n] rfl rfl (cell_one_new _ _ _) (ints_oneCell .i64 [n]) hmax (by omega) hbaa ?_; intro v3a w3a hr3a hg3a _ hat3a
                   obtain ⟨A3a, c3a, rfl⟩ := own_slice hr3a
                   have hy3a := (L6.Turn.of_grown (S := fun i => (u).ownBlock = some i) hg3a (fun _ h => h)).blk hG2a.y.y (row_ne hroa hG2a.y.y (by decide))
                   have f4a := hy3a.frozen 4
                   have c5a : w3a.cell? ⟨b, 4, none⟩ = some u := hy3a.cell 4)
                | go_in)
              have hG1 := hG2a.app4 hln hr3a hg3a hat3a
              obtain ⟨w5, hwa⟩ : ∃ W, W = w3a.setCell ⟨b, 4, none⟩ (.slice A3a (n0 + 1) c3a) := ⟨_, rfl⟩
              rw [← hwa] at hG1
              rw [← hwa]
              clear hwa f4a c4a c5a hy3a hbaa hroa hG2a hbna hr3a hg3a hat3a hG
              have c4b : w5.cell? ⟨b, 5, none⟩ = some v := hG1.y.y.cell 5
              have hbnb := below_new w5 (.cells #[.int .i64 0] 3)
              have hG2b := hG1.below hbnb
              have hrob := hG2b.y.o5
              unfold OwnI at hrob
              rw [hlm] at hrob
              have hbab := hG2b.y.bw.size
              go_upto_region 23 with (first
                | (at_builtin; refine wpList_append_own_at _ rfl _ _ 28 rfl w.heap.size 3 i0 (.int .i64 0) 1 8 Try.underlying28 hi hz0 hz1 hz2 rfl (by decide) _ _ _ rfl hrob ⟨w5.heap.size, 0, none⟩ 1 1 [.int .i64 0] rfl rfl (cell_one_new _ _ _) (ints_oneCell .i64 [0]) hmax (by omega) hbab ?_; intro v3b w3b hr3b hg3b _ hat3b
                   obtain ⟨A3b, c3b, rfl⟩ := own_slice hr3b
                   have hy3b := (L6.Turn.of_grown (S := fun i => (v).ownBlock = some i) hg3b (fun _ h => h)).blk hG2b.y.y (row_ne hrob hG2b.y.y (by decide))
                   have f4b := hy3b.frozen 5
                   have c5b : w3b.cell? ⟨b, 5, none⟩ = some v := hy3b.cell 5)
                | go_in)
              have hG2 := hG2b.app5 hlm hr3b hg3b hat3b
              obtain ⟨w6, hwb⟩ : ∃ W, W = w3b.setCell ⟨b, 5, none⟩ (.slice A3b (n0 + 1) c3b) := ⟨_, rfl⟩
              rw [← hwb] at hG2
              rw [← hwb]
              clear hwb f4b c4b c5b hy3b hbab hrob hG2b hbnb hr3b hg3b hat3b hG1
              rw [show l ++ [n] = numsOf (insAt s.L r ⟨n, 0⟩) from HLM.out.1.symm, show m ++ [(0 : Int)] = timsOf (insAt s.L r ⟨n, 0⟩) from HLM.out.2.symm] at hG2
              obtain ⟨u9, hu9⟩ : ∃ q, q = Value.slice A3a (n0 + 1) c3a := ⟨_, rfl⟩
              obtain ⟨v9, hv9⟩ : ∃ q, q = Value.slice A3b (n0 + 1) c3b := ⟨_, rfl⟩
              rw [← hu9, ← hv9] at hG2
              clear hu9 hv9
              have hq4 := hG2.y.y
              have hq1 := hG2.r
              obtain ⟨A', c', hu, hA', hAb⟩ := OwnI.rd hG2.y.o4
              obtain ⟨B', d', hv, hB', hBb⟩ := OwnI.rd hG2.y.o5
              rw [hu, hv] at hG2
              rw [hu, hv, nums_len, tims_len] at hq4
              rw [nums_len, tims_len] at hG2
              obtain ⟨N, hN⟩ : ∃ N, N = (insAt s.L r ⟨n, 0⟩).length := ⟨_, rfl⟩
              rw [← hN] at hq4 hG2
              have HN := Lib.hid hN
              have hbz := hG2.y.bw
              have HGG := Lib.hid hG2
              clear hN hG2
              go_wp2_with (first
                | (refine wpList_row_at rfl _ _ rfl b rfl _ _ _ _ hq4 Try.underlying30 rfl rfInfo ?_)
                | (refine wpList_store_row rfl _ _ _ rfl br (rfV s (.slice A' N c') (.slice B' N d')) rfl rfl _ _ hq1 rfInfo rfl (rfV_ones _ _ _ _ _ _ _) ?_)
                | go_in)
              (try simp only [Exit.inBlock, Exit.then])
              refine bodyPost_ret (results_row2 rfl _ _ br rfl _ rfl _ (rfV s (.slice A' N c') (.slice B' N d')) _ _ (blk_setRow hq1) Try.underlying30 rfl rfInfo) rfl ?_
              have hrw := turn_row w6 br (rfV s (.slice A' N c') (.slice B' N d'))
              have hbf := below_setRow (cs := rfV s (.slice A' N c') (.slice B' N d')) hbz (show w.heap.size ≤ br by rw [HBR.out]; omega)
              have o4 := hrw.row HGG.out.y.o4 (fun i h1 h2 => row_ne HGG.out.y.o4 hq1 (by decide) (by rw [h1, h2]))
              have o5 := hrw.row HGG.out.y.o5 (fun i h1 h2 => row_ne HGG.out.y.o5 hq1 (by decide) (by rw [h1, h2]))
              obtain ⟨A2, c2, eA, hA2, hAb2⟩ := OwnI.rd (l := numsOf (insAt s.L r ⟨n, 0⟩)) o4
              obtain ⟨B2, d2, eB, hB2, hBb2⟩ := OwnI.rd (l := timsOf (insAt s.L r ⟨n, 0⟩)) o5
              injection eA with eA1 _ _
              injection eB with eB1 _ _
              subst eA1 eB1
              have hLX : wantL s n = insAt s.L r ⟨n, 0⟩ := by
                unfold wantL
                rw [if_pos HE.out, insW_is HS.out HNW.out, HR.out]
              rw [hLX, HE.out]
              exact ⟨A', c', B', d', by rw [HN.out]; rfl, hA2, hB2, fun ad e => .inr (hAb2 ad e), fun ad e => .inr (hBb2 ad e), hbf⟩
end Go.Proofs.Ytglnocclhhdbbaa
