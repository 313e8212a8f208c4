/-
  A tick: the document.
-/
import Derived.Test.YtglnocclhhdbbaaRfT
set_option linter.unusedSimpArgs false
set_option linter.unusedVariables false
set_option maxRecDepth 10000
namespace Go.Proofs.Ytglnocclhhdbbaa
open Go.RowKit Go.Lib
open L3 (Blk Reads block_of_add add_of_add)
open L6 (Turn moreB fresh From In)

set_option maxHeartbeats 4000000 in
set_option maxRecDepth 100000 in
theorem rtick_any (s : FS) (A B : Option Addr) (c d : Nat) (w : World) (hA : RdI w A (numsOf s.L)) (hB : RdI w B (timsOf s.L)) (hok : s.ok ∧ s.fit) :
    Calls Try.prog 14 #[.agg (rfV s (.slice A s.L.length c) (.slice B s.L.length d))] w (RTickPost s w) := by
  obtain ⟨i0, hi, hz0, hz1, hz2⟩ := info_parts intInfo
  have HA := Lib.hid hA
  have HB := Lib.hid hB
  have HOK := Lib.hid hok
  have hz := hok.1.small
  obtain ⟨i1, hi1, hy0, hy1, hy2⟩ := info_parts rakInfo3
  obtain ⟨z, hzz⟩ : ∃ z, z = s.L.length := ⟨_, rfl⟩
  rw [← hzz] at hz ⊢
  have HZ := Lib.hid hzz
  have k0 : Blk ((w.alloc (.cells (rfV s (.slice A z c) (.slice B z d)) 30)).alloc (.cells (rfV zeroFS (.slice none 0 0) (.slice none 0 0)) 30)) w.heap.size 30 (rfV s (.slice A z c) (.slice B z d)) := (rfNew w _ _ _).alloc _
  have k1 : Blk ((w.alloc (.cells (rfV s (.slice A z c) (.slice B z d)) 30)).alloc (.cells (rfV zeroFS (.slice none 0 0) (.slice none 0 0)) 30)) (w.heap.size + 1) 30 (rfV zeroFS (.slice none 0 0) (.slice none 0 0)) := by simpa using rfNew (w.alloc (.cells (rfV s (.slice A z c) (.slice B z d)) 30)) zeroFS (.slice none 0 0) (.slice none 0 0)
  have hb0 : Below w.heap.size w ((w.alloc (.cells (rfV s (.slice A z c) (.slice B z d)) 30)).alloc (.cells (rfV zeroFS (.slice none 0 0) (.slice none 0 0)) 30)) := (below_new w _).alloc (by simp) _
  have hs0 : ((w.alloc (.cells (rfV s (.slice A z c) (.slice B z d)) 30)).alloc (.cells (rfV zeroFS (.slice none 0 0) (.slice none 0 0)) 30)).heap.size = w.heap.size + 2 := by simp
  obtain ⟨W0, hW0⟩ : ∃ W0, W0 = (w.alloc (.cells (rfV s (.slice A z c) (.slice B z d)) 30)).alloc (.cells (rfV zeroFS (.slice none 0 0) (.slice none 0 0)) 30) := ⟨_, rfl⟩
  rw [← hW0] at k0 k1 hb0 hs0
  have hE : (w.alloc (.cells (rfV s (.slice A z c) (.slice B z d)) 30)).alloc (.cells #[.int .i64 0, .int .i64 0, .int .i64 0, .int .i64 0, .slice none 0 0, .slice none 0 0] 30) = W0 := hW0.symm
  clear hA hB hzz hW0 hok
  go_enter Try.func14, Try.ntmps14
  go_upto_region 1 with fail
  clear hE
  have hb2 := Below.refl W0.heap.size W0
  have q0 := k0.below hb2 k0.lt
  have q1 := k1.below hb2 k1.lt
  have hbz := nxt hb0 hb2
  have hsz : w.heap.size + 2 ≤ W0.heap.size := by rw [← hs0]; exact hb2.size
  clear k0 k1 hb0 hb2 hs0
  go_upto_region 2 with (first
    | (refine wpList_row_at rfl _ _ rfl w.heap.size rfl _ _ _ _ q0 Try.underlying30 rfl rfInfo ?_)
    | (refine wpList_store_new rfl _ _ _ rfl W0 (rfV s (.slice A z c) (.slice B z d)) rfl rfl 30 _ rfInfo rfl (rfV_ones _ _ _ _ _ _ _) ?_)
    | go_in)
  have hb3 := below_new W0 (.cells (rfV s (.slice A z c) (.slice B z d)) 30)
  have q2 := rfNew W0 s (.slice A z c) (.slice B z d)
  have p0 := q0.below hb3 q0.lt
  have p1 := q1.below hb3 q1.lt
  have hbz3 := nxt hbz hb3
  obtain ⟨w3, hw3⟩ : ∃ w3, w3 = W0.alloc (.cells (rfV s (.slice A z c) (.slice B z d)) 30) := ⟨_, rfl⟩
  rw [← hw3] at q2 p0 p1 hbz3 ⊢
  obtain ⟨b, hbb⟩ : ∃ b, b = W0.heap.size := ⟨_, rfl⟩
  rw [← hbb] at q2 hsz ⊢
  have c4 : w3.cell? ⟨b, 4, none⟩ = some (.slice A z c) := q2.cell 4
  have c5 : w3.cell? ⟨b, 5, none⟩ = some (.slice B z d) := q2.cell 5
  have f4 := q2.frozen 4
  have f5 := q2.frozen 5
  obtain ⟨br, hbr⟩ : ∃ br, br = w.heap.size + 1 := ⟨_, rfl⟩
  rw [← hbr] at p1 ⊢
  have HBR := Lib.hid hbr
  clear hbr
  obtain ⟨bx, hbx⟩ : ∃ bx, bx = w.heap.size := ⟨_, rfl⟩
  rw [← hbx] at p0 ⊢
  have HBX := Lib.hid hbx
  clear hw3 hbb q0 q1 hbz hb3 hbx
  go_upto_region 4 with fail
  have hT : Turn (fun i => i = b) w3 ((w3.setCell ⟨b, 4, none⟩ (.slice none 0 0)).setCell ⟨b, 5, none⟩ (.slice none 0 0)) := ((L6.Turn.refl (fun i => i = b) w3).setCell (p := ⟨b, 4, none⟩) (.inl rfl) _).setCell (p := ⟨b, 5, none⟩) (.inl rfl) _
  have hG0 : GAt w bx b br s (.slice A z c) (.slice B z d) (.slice none 0 0) (.slice none 0 0) [] [] ((w3.setCell ⟨b, 4, none⟩ (.slice none 0 0)).setCell ⟨b, 5, none⟩ (.slice none 0 0)) :=
    ⟨hT.blk p0 (by rw [HBX.out]; omega), YAt.start w s (hbz3.trans (hT.below (fun i e => by omega) hbz3.size)) ((q2.set_ 4 _).set_ 5 _) (by omega), by rw [HBX.out]; omega, hT.blk p1 (by rw [HBR.out]; omega), by rw [HBR.out]; omega⟩
  obtain ⟨w4, hw4⟩ : ∃ W, W = (w3.setCell ⟨b, 4, none⟩ (.slice none 0 0)).setCell ⟨b, 5, none⟩ (.slice none 0 0) := ⟨_, rfl⟩
  rw [← hw4] at hG0 ⊢
  have HG0 := Lib.hid hG0
  clear hw4 hT q2 p0 p1 c4 c5 f4 f5 hbz3 hG0
  have tr0 := HOK.out.1.tr
  go_wp2
  go_loopw [5, 6] (fun vo i wr => ∃ (k : Nat) (u v : Value), i = .int .i64 k ∧ k ≤ z ∧ GAt w bx b br s (.slice A z c) (.slice B z d) u v (numsOf (tickL s.tries (s.L.take k))) (timsOf (tickL s.tries (s.L.take k))) wr ∧ OwnK wr w.heap.size vo (tickA s.f s.me s.tries (s.L.take k))) (fun _ i _ => z - (RowKit.intOf i).toNat)
  case atStart => exact ⟨0, _, _, rfl, Nat.zero_le _, by rw [List.take_zero]; exact HG0.out, by rw [List.take_zero]; exact ownK_nil _ _⟩
  case round =>
    obtain ⟨k, u, v, rfl, hk, hG, hO⟩ := hrel
    have rb : wr.cell? ⟨bx, 4, none⟩ = some (.slice A z c) := hG.x.cell 4
    by_cases hlt : k < z
    · have hkL : k < s.L.length := by rw [← HZ.out]; exact hlt
      obtain ⟨hst1, hst2⟩ := tick_step hkL s.f s.me s.tries
      obtain ⟨ad4, hA4, hl4, hc4⟩ := RdI.cell HA.out (j := k) (by rw [nums_len]; exact hkL)
      obtain ⟨ad5, hA5, hl5, hc5⟩ := RdI.cell HB.out (j := k) (by rw [tims_len]; exact hkL)
      subst hA4 hA5
      rw [get_nums hkL] at hc4
      rw [get_tims hkL] at hc5
      have hyt := HOK.out.1.t _ (List.getElem_mem hkL)
      obtain ⟨y, hy⟩ : ∃ y, y = s.L[k] := ⟨_, rfl⟩
      rw [← hy] at hc4 hc5 hst1 hst2 hyt
      have hFl := tick_le s.tries (s.L.take k)
      rw [List.length_take] at hFl
      have hFa := asks_len s.f s.me s.tries (s.L.take k)
      obtain ⟨F, hF⟩ : ∃ F, F = tickL s.tries (s.L.take k) := ⟨_, rfl⟩
      obtain ⟨K, hK⟩ : ∃ K, K = tickA s.f s.me s.tries (s.L.take k) := ⟨_, rfl⟩
      rw [← hF] at hG hst1 hFl hFa
      rw [← hK] at hO hst2 hFa
      have HST := Lib.hid (And.intro hst1 hst2)
      clear hst1 hst2 hy hF hK hkL
      have ra : wr.cell? (ad5.add k) = some (.int .i64 y.t) := (hG.y.bw.cell (by rw [block_of_add]; exact hl5)).trans hc5
      have rc : wr.cell? ⟨bx, 5, none⟩ = some (.slice (some ad5) z d) := hG.x.cell 5
      have rd : wr.cell? ⟨bx, 3, none⟩ = some (.int .i64 s.tries) := hG.x.cell 3
      by_cases he : y.t < s.tries
      · go_upto_region 8 with fail
        go_quiet (fail)
        generalize hwq : World.drewN wr _ = wq
        have hGq : GAt w bx b br s (.slice (some ad4) z c) (.slice (some ad5) z d) u v (numsOf F) (timsOf F) wq := by rw [← hwq]; exact hG.below (L6.below_drewN (Below.refl _ _) _)
        have hOq := row_below hO (show Below wr.heap.size wr wq by rw [← hwq]; exact L6.below_drewN (Below.refl _ _) _)
        clear hwq hG hO ra rb rc rd
        have HE1 := Lib.hid (HST.out.1.trans (if_pos he))
        have HE2 := Lib.hid (HST.out.2.trans (if_pos he))
        clear HST
        go_upto_region 9 with fail
        have hd := hGq.below (Below.refl _ _).drew
        have hoq := row_below hOq (Below.refl _ _).drew
        have hH : RdT bx s (.slice (some ad4) z c) (.slice (some ad5) z d) (ad4.add k) (ad5.add k) y.n y.t wq.drew := ⟨hd.x, (hd.y.bw.cell (by rw [block_of_add]; exact hl4)).trans hc4, (hd.y.bw.cell (by rw [block_of_add]; exact hl5)).trans hc5⟩
        (try simp only [Act.put])
        refine wp_region_K (RdT bx s (.slice (some ad4) z c) (.slice (some ad5) z d) (ad4.add k) (ad5.add k) y.n y.t) [0, 1, 2, 3, 4, 5, 6, 7, 8, 9, 10, 11, 13, 14, 15, 16, 17] (by kernel_rfl) ?_
        refine wpK_quiet (f := 5) (by kernel_rfl) (fun _ x _ _ _ h => by cases x <;> exact h) hH [0, 1, 2, 3, 4, 5, 6, 7, 8, 9, 10, 11, 13, 14, 15, 16, 17] _ _ (by kernel_rfl) (by kernel_rfl) (by kernel_rfl) ?_
        have ne : Nonempty (WorldIn (RdT bx s (.slice (some ad4) z c) (.slice (some ad5) z d) (ad4.add k) (ad5.add k) y.n y.t)) := ⟨⟨_, hH⟩⟩
        have g0 : ∀ h0 : WorldIn (RdT bx s (.slice (some ad4) z c) (.slice (some ad5) z d) (ad4.add k) (ad5.add k) y.n y.t), h0.w.cell? ⟨bx, 4, none⟩ = some (.slice (some ad4) z c) := fun h0 => h0.h.x.cell 4
        have g1 : ∀ h0 : WorldIn (RdT bx s (.slice (some ad4) z c) (.slice (some ad5) z d) (ad4.add k) (ad5.add k) y.n y.t), h0.w.cell? ⟨bx, 5, none⟩ = some (.slice (some ad5) z d) := fun h0 => h0.h.x.cell 5
        have g2 : ∀ h0 : WorldIn (RdT bx s (.slice (some ad4) z c) (.slice (some ad5) z d) (ad4.add k) (ad5.add k) y.n y.t), h0.w.cell? (ad4.add k) = some (.int .i64 y.n) := fun h0 => h0.h.e4
        have g3 : ∀ h0 : WorldIn (RdT bx s (.slice (some ad4) z c) (.slice (some ad5) z d) (ad4.add k) (ad5.add k) y.n y.t), h0.w.cell? (ad5.add k) = some (.int .i64 y.t) := fun h0 => h0.h.e5
        conv => arg 5; simp [pick]
        repeat (first
          | (refine wpQuiet_row rfl _ _ rfl bx rfl _ _ _ _ (fun h0 => h0.h.x) Try.underlying30 rfl rfInfo ?_
             conv => arg 6; simp only [Act.put, List.setIfInBounds_toArray, List.set_cons_zero, List.set_cons_succ])
          | go_big_quiet_step (fail))
        refine wpQuiet_nil ?_
        clear ne g0 g1 g2 g3
        have HW := Lib.hid (rwhom_any s (.slice (some ad4) z c) (.slice (some ad5) z d) y.t wq.drew HOK.out.1 hyt.1 ⟨by have := hyt.1; omega, by have := hyt.2; have := HOK.out.2.tr.2; omega⟩)
        obtain ⟨wd, hwd⟩ : ∃ W, W = wq.drew := ⟨_, rfl⟩
        rw [← hwd] at hd hH hoq HW ⊢
        clear hwd hGq hOq
        refine wpK_step 12 (by kernel_rfl) rfl ?_
        go_wp2_with (go_at_call 30; refine HW.out.mono ?_; unfold gives; rintro e w5 ⟨rfl, hb5⟩)
        have hH5 := hH.below hb5
        have hG5 := hd.below hb5
        have hO5 := row_below hoq hb5
        clear hd hH hoq HW
        refine stepQ.mk ⟨fun _ => hH5, ?_⟩
        refine wpK_step 18 (by kernel_rfl) rfl ?_
        refine wpList_build rfl _ _ rfl #[(0, .int .i64 y.n), (1, .int .i64 (whomV s.f s.me y.t)), (2, .int .i64 y.t)] rfl (build_rak _ _ _ _) ?_
        go_wp2
        refine stepQ.mk ⟨fun _ => hH5, ?_⟩
        refine wpK_step 19 (by kernel_rfl) rfl ?_
        refine wpList_buildSlice rfl _ _ _ rfl #[(0, .agg (akC (askOf s.f s.me y)))] rfl (slice_rak (askOf s.f s.me y) w5) ?_
        have hb6 := below_new w5 (.cells (akC (askOf s.f s.me y)) 43)
        have hH6 := hH5.below hb6
        have hG6 := hG5.below hb6
        have hO6 := row_below hO5 hb6
        have hk6 : Blk (w5.alloc (.cells (akC (askOf s.f s.me y)) 43)) w5.heap.size 43 (akC (askOf s.f s.me y)) := Blk.new _ _ _
        obtain ⟨w6, hw6⟩ : ∃ w6, w6 = w5.alloc (.cells (akC (askOf s.f s.me y)) 43) := ⟨_, rfl⟩
        rw [← hw6] at hH6 hG6 hO6 hk6 ⊢
        obtain ⟨q, hq⟩ : ∃ q, q = w5.heap.size := ⟨_, rfl⟩
        rw [← hq] at hk6 ⊢
        clear hw6 hq hb6 hH5 hG5 hO5 hb5
        go_wp2
        refine stepQ.mk ⟨fun _ => hH6, ?_⟩
        refine wpK_step 20 (by kernel_rfl) rfl ?_
        have hck6 := blk_ak hk6
        obtain ⟨n0, hn0⟩ : ∃ n0, n0 = F.length := ⟨_, rfl⟩
        have hKl : K.length = n0 := by rw [hFa, hn0]
        have hln : (numsOf F).length = n0 := by rw [nums_len, hn0]
        have hlm : (timsOf F).length = n0 := by rw [tims_len, hn0]
        have hmax : n0 + 1 ≤ maxLen := by unfold maxLen; omega
        have hn17 : n0 ≤ 17 := by omega
        rw [hKl] at hO6
        have hba := hG6.y.bw.size
        refine wpList_append_own _ rfl _ _ 39 rfl w.heap.size 43 i1 (.agg (akC zeroAk)) 3 24 Try.underlying39 hi1 hy0 hy1 hy2 rfl (by decide) _ _ _ rfl hO6 ⟨q, 0, none⟩ 1 1 (akL (askOf s.f s.me y)) rfl rfl hck6 (one_akL _) hmax (by omega) hba ?_
        intro v7 w7 hr7 hg7 _
        have hG7 := hG6.asks hO6 hg7
        have hH7 := hH6.grown hO6 hg7 (by rw [block_of_add]; exact hl4) (by rw [block_of_add]; exact hl5)
        have hO7 := ownK_snoc hKl hr7
        go_wp2
        refine stepQ.mk ⟨fun _ => hH7, ?_⟩
        refine wpK_seq [21] _ _ _ (by kernel_rfl) ?_
        conv => arg 4; simp [pick]
        obtain ⟨l0, m0⟩ := lists_snoc (L := F ++ [inc y]) (F := F) (y := inc y) rfl
        have HLM := Lib.hid (And.intro l0 m0)
        obtain ⟨l, hl⟩ : ∃ l, l = numsOf F := ⟨_, rfl⟩
        obtain ⟨m, hm⟩ : ∃ m, m = timsOf F := ⟨_, rfl⟩
        rw [← hl] at hG7 hln HLM
        rw [← hm] at hG7 hlm HLM
        obtain ⟨K2, hK2⟩ : ∃ q, q = K ++ [askOf s.f s.me y] := ⟨_, rfl⟩
        rw [← hK2] at hO7 HE2
        obtain ⟨y0, y1⟩ := hyt
        have y2 := HOK.out.2.tr.2
        clear hn0 hl hm l0 m0 hK2 hH6 hG6 hO6 hk6 hck6 hba hr7 hg7 hH7 hFl hFa
        go_upto_region 10 with fail
        have hda := hG7.below (Below.refl _ _).drew
        have hea : w7.drew.cell? (ad4.add k) = some (.int .i64 y.n) := (hda.y.bw.cell (by rw [block_of_add]; exact hl4)).trans hc4
        have hHa := hda.hold hea
        (try simp only [Act.put])
        refine wp_region_K (RdH bx b s (.slice (some ad4) z c) (.slice (some ad5) z d) u v (ad4.add k) (.int .i64 y.n)) [0, 1, 2, 3, 4, 5, 6] (by kernel_rfl) ?_
        refine wpK_quiet (f := 4) (by kernel_rfl) (fun _ x _ _ _ h => by cases x <;> exact h) hHa [0, 1, 2, 3, 4, 5, 6] _ _ (by kernel_rfl) (by kernel_rfl) (by kernel_rfl) ?_
        have nea : Nonempty (WorldIn (RdH bx b s (.slice (some ad4) z c) (.slice (some ad5) z d) u v (ad4.add k) (.int .i64 y.n))) := ⟨⟨_, hHa⟩⟩
        have g0a : ∀ h0 : WorldIn (RdH bx b s (.slice (some ad4) z c) (.slice (some ad5) z d) u v (ad4.add k) (.int .i64 y.n)), h0.w.cell? ⟨b, 4, none⟩ = some u := fun h0 => h0.h.y.cell 4
        have g1a : ∀ h0 : WorldIn (RdH bx b s (.slice (some ad4) z c) (.slice (some ad5) z d) u v (ad4.add k) (.int .i64 y.n)), h0.w.cell? ⟨bx, 4, none⟩ = some (.slice (some ad4) z c) := fun h0 => h0.h.x.cell 4
        have g2a : ∀ h0 : WorldIn (RdH bx b s (.slice (some ad4) z c) (.slice (some ad5) z d) u v (ad4.add k) (.int .i64 y.n)), h0.w.cell? (ad4.add k) = some (.int .i64 y.n) := fun h0 => h0.h.e
        conv => arg 5; simp [pick]
        repeat go_big_quiet_step (fail)
        refine wpQuiet_nil ?_
        clear nea g0a g1a g2a hea
        obtain ⟨wda, hwda⟩ : ∃ W, W = w7.drew := ⟨_, rfl⟩
        have hoxa := row_below hO7 (Below.refl _ _).drew
        rw [← hwda] at hda hHa hoxa ⊢
        clear hwda
        refine wpK_step 7 (by kernel_rfl) rfl ?_
        have hbna := below_new wda (.cells #[.int .i64 y.n] 3)
        have hG2a := hda.below hbna
        have hH2a := hHa.below hbna
        go_wp2
        refine stepQ.mk ⟨fun _ => hH2a, ?_⟩
        refine wpK_step 8 (by kernel_rfl) rfl ?_
        have hroa := hG2a.y.o4
        unfold OwnI at hroa
        rw [hln] at hroa
        have hbaa := hG2a.y.bw.size
        refine wpList_append_own_at _ rfl _ _ 28 rfl w.heap.size 3 i0 (.int .i64 0) 1 8 Try.underlying28 hi hz0 hz1 hz2 rfl (by decide) _ _ _ rfl hroa ⟨wda.heap.size, 0, none⟩ 1 1 [.int .i64 y.n] rfl rfl (cell_one_new _ _ _) (ints_oneCell .i64 [y.n]) hmax (by omega) hbaa ?_
        intro v3a w3a hr3a hg3a _ hat3a
        obtain ⟨A3a, c3a, rfl⟩ := own_slice hr3a
        have hoya := (L6.Turn.of_grown (S := fun i => (u).ownBlock = some i) hg3a (fun _ h => h)).row (row_below hoxa hbna) (fun i e1 e2 => rows_ne (row_below hoxa hbna) hroa (by decide) e1 e2)
        have hO8 := ((L6.Turn.refl (fun i => i = b) w3a).setCell (p := ⟨b, 4, none⟩) (.inl rfl) (.slice A3a (n0 + 1) c3a)).row hoya (fun i e1 e2 => row_ne hoya ((L6.Turn.of_grown (S := fun i => (u).ownBlock = some i) hg3a (fun _ h => h)).blk hH2a.y (row_ne hroa hH2a.y (by decide))) (by decide) (by rw [e1, e2]))
        clear hoxa hoya hO7
        have hH3a := hH2a.grown hroa hg3a (by rw [block_of_add]; exact hl4)
        go_wp2
        refine stepQ.mk ⟨fun _ => hH3a, ?_⟩
        refine wpK_seq [9, 10] _ _ _ (by kernel_rfl) ?_
        conv => arg 4; simp [pick]
        have f4a := hH3a.y.frozen 4
        have c4a : w3a.cell? ⟨b, 4, none⟩ = some u := hH3a.y.cell 4
        have hG8 := hG2a.app4 hln hr3a hg3a hat3a
        clear hda hHa hG2a hH2a hH3a hroa hbaa hbna hr3a hg3a hat3a hG7
        go_upto_region 11 with fail
        obtain ⟨w8, hwa⟩ : ∃ W, W = w3a.setCell ⟨b, 4, none⟩ (.slice A3a (n0 + 1) c3a) := ⟨_, rfl⟩
        rw [← hwa] at hG8 hO8
        rw [← hwa]
        clear hwa f4a c4a
        have hdb := hG8.below (Below.refl _ _).drew
        have heb : w8.drew.cell? (ad5.add k) = some (.int .i64 y.t) := (hdb.y.bw.cell (by rw [block_of_add]; exact hl5)).trans hc5
        have hHb := hdb.hold heb
        (try simp only [Act.put])
        refine wp_region_K (RdH bx b s (.slice (some ad4) z c) (.slice (some ad5) z d) (.slice A3a (n0 + 1) c3a) v (ad5.add k) (.int .i64 y.t)) [0, 1, 2, 3, 4, 5, 6] (by kernel_rfl) ?_
        refine wpK_quiet (f := 5) (by kernel_rfl) (fun _ x _ _ _ h => by cases x <;> exact h) hHb [0, 1, 2, 3, 4, 5, 6] _ _ (by kernel_rfl) (by kernel_rfl) (by kernel_rfl) ?_
        have neb : Nonempty (WorldIn (RdH bx b s (.slice (some ad4) z c) (.slice (some ad5) z d) (.slice A3a (n0 + 1) c3a) v (ad5.add k) (.int .i64 y.t))) := ⟨⟨_, hHb⟩⟩
        have g0b : ∀ h0 : WorldIn (RdH bx b s (.slice (some ad4) z c) (.slice (some ad5) z d) (.slice A3a (n0 + 1) c3a) v (ad5.add k) (.int .i64 y.t)), h0.w.cell? ⟨b, 5, none⟩ = some v := fun h0 => h0.h.y.cell 5
        have g1b : ∀ h0 : WorldIn (RdH bx b s (.slice (some ad4) z c) (.slice (some ad5) z d) (.slice A3a (n0 + 1) c3a) v (ad5.add k) (.int .i64 y.t)), h0.w.cell? ⟨bx, 5, none⟩ = some (.slice (some ad5) z d) := fun h0 => h0.h.x.cell 5
        have g2b : ∀ h0 : WorldIn (RdH bx b s (.slice (some ad4) z c) (.slice (some ad5) z d) (.slice A3a (n0 + 1) c3a) v (ad5.add k) (.int .i64 y.t)), h0.w.cell? (ad5.add k) = some (.int .i64 y.t) := fun h0 => h0.h.e
        conv => arg 5; simp [pick]
        repeat go_big_quiet_step (fail)
        refine wpQuiet_nil ?_
        clear neb g0b g1b g2b heb
        obtain ⟨wdb, hwdb⟩ : ∃ W, W = w8.drew := ⟨_, rfl⟩
        have hoxb := row_below hO8 (Below.refl _ _).drew
        rw [← hwdb] at hdb hHb hoxb ⊢
        clear hwdb
        refine wpK_step 7 (by kernel_rfl) rfl ?_
        go_wp2
        refine stepQ.mk ⟨fun _ => hHb, ?_⟩
        refine wpK_step 8 (by kernel_rfl) rfl ?_
        have hbnb := below_new wdb (.cells #[.int .i64 (y.t + 1)] 3)
        have hG2b := hdb.below hbnb
        have hH2b := hHb.below hbnb
        go_wp2
        refine stepQ.mk ⟨fun _ => hH2b, ?_⟩
        refine wpK_step 9 (by kernel_rfl) rfl ?_
        have hrob := hG2b.y.o5
        unfold OwnI at hrob
        rw [hlm] at hrob
        have hbab := hG2b.y.bw.size
        refine wpList_append_own_at _ rfl _ _ 28 rfl w.heap.size 3 i0 (.int .i64 0) 1 8 Try.underlying28 hi hz0 hz1 hz2 rfl (by decide) _ _ _ rfl hrob ⟨wdb.heap.size, 0, none⟩ 1 1 [.int .i64 (y.t + 1)] rfl rfl (cell_one_new _ _ _) (ints_oneCell .i64 [(y.t + 1)]) hmax (by omega) hbab ?_
        intro v3b w3b hr3b hg3b _ hat3b
        obtain ⟨A3b, c3b, rfl⟩ := own_slice hr3b
        have hoyb := (L6.Turn.of_grown (S := fun i => (v).ownBlock = some i) hg3b (fun _ h => h)).row (row_below hoxb hbnb) (fun i e1 e2 => rows_ne (row_below hoxb hbnb) hrob (by decide) e1 e2)
        have hO9 := ((L6.Turn.refl (fun i => i = b) w3b).setCell (p := ⟨b, 5, none⟩) (.inl rfl) (.slice A3b (n0 + 1) c3b)).row hoyb (fun i e1 e2 => row_ne hoyb ((L6.Turn.of_grown (S := fun i => (v).ownBlock = some i) hg3b (fun _ h => h)).blk hH2b.y (row_ne hrob hH2b.y (by decide))) (by decide) (by rw [e1, e2]))
        clear hoxb hoyb hO8
        have hH3b := hH2b.grown hrob hg3b (by rw [block_of_add]; exact hl5)
        go_wp2
        refine stepQ.mk ⟨fun _ => hH3b, ?_⟩
        refine wpK_seq [10, 11] _ _ _ (by kernel_rfl) ?_
        conv => arg 4; simp [pick]
        have f4b := hH3b.y.frozen 5
        have c4b : w3b.cell? ⟨b, 5, none⟩ = some v := hH3b.y.cell 5
        have hG9 := hG2b.app5 hlm hr3b hg3b hat3b
        clear hdb hHb hG2b hH2b hH3b hrob hbab hbnb hr3b hg3b hat3b hG8
        go_wp2
        go_roundw
        case rel => exact ⟨k + 1, _, _, by go_num, by omega, by rw [HE1.out, HLM.out.1, HLM.out.2]; exact hG9, by rw [HE2.out]; exact hO9⟩
        case measure => simp [RowKit.intOf]; omega
      · have HE1 := Lib.hid (HST.out.1.trans (if_neg he))
        have HE2 := Lib.hid (HST.out.2.trans (if_neg he))
        clear HST
        go_upto_region 8 with fail
        go_quiet (fail)
        go_wp2
        go_roundw
        case rel => exact ⟨k + 1, u, v, by go_num, by omega, by rw [HE1.out]; exact hG.below (L6.below_drewN (Below.refl _ _) _), by rw [HE2.out]; exact row_below hO (L6.below_drewN (Below.refl _ _) _)⟩
        case measure => simp [RowKit.intOf]; omega
    · obtain rfl : k = z := by omega
      have e : s.L.take k = s.L := by rw [HZ.out, List.take_length]
      rw [e] at hG hO
      clear e rb
      have rb : wr.cell? ⟨bx, 4, none⟩ = some (.slice A k c) := hG.x.cell 4
      have hq4 := hG.y.y
      have hq1 := hG.r
      obtain ⟨A', c', hu, hA', hAb⟩ := OwnI.rd hG.y.o4
      obtain ⟨B', d', hv, hB', hBb⟩ := OwnI.rd hG.y.o5
      rw [hu, hv] at hG
      rw [hu, hv, nums_len, tims_len] at hq4
      rw [nums_len, tims_len] at hG
      obtain ⟨N, hN⟩ : ∃ N, N = (tickL s.tries s.L).length := ⟨_, rfl⟩
      rw [← hN] at hq4 hG
      have HN := Lib.hid hN
      have hbz := hG.y.bw
      have HGG := Lib.hid hG
      clear hN hG
      go_wp2_with (first
        | (refine wpList_row_at rfl _ _ rfl b rfl _ _ _ _ hq4 Try.underlying30 rfl rfInfo ?_)
        | (refine wpList_store_row rfl _ _ _ rfl br (rfV s (.slice A' N c') (.slice B' N d')) rfl rfl _ _ hq1 rfInfo rfl (rfV_ones _ _ _ _ _ _ _) ?_)
        | go_in)
      (try simp only [Exit.inBlock, Exit.then])
      refine bodyPost_ret (results_row2 rfl _ _ br rfl _ rfl _ (rfV s (.slice A' N c') (.slice B' N d')) _ _ (blk_setRow hq1) Try.underlying30 rfl rfInfo) rfl ?_
      have hrw := turn_row wr br (rfV s (.slice A' N c') (.slice B' N d'))
      have hbf := below_setRow (cs := rfV s (.slice A' N c') (.slice B' N d')) hbz (show w.heap.size ≤ br by rw [HBR.out]; omega)
      have o4 := hrw.row HGG.out.y.o4 (fun i h1 h2 => row_ne HGG.out.y.o4 hq1 (by decide) (by rw [h1, h2]))
      have o5 := hrw.row HGG.out.y.o5 (fun i h1 h2 => row_ne HGG.out.y.o5 hq1 (by decide) (by rw [h1, h2]))
      obtain ⟨A2, c2, eA, hA2, hAb2⟩ := OwnI.rd (l := numsOf (tickL s.tries s.L)) o4
      obtain ⟨B2, d2, eB, hB2, hBb2⟩ := OwnI.rd (l := timsOf (tickL s.tries s.L)) o5
      injection eA with eA1 _ _
      injection eB with eB1 _ _
      subst eA1 eB1
      have hOf := hrw.row hO (fun i e1 e2 => row_ne hO hq1 (by decide) (by rw [e1, e2]))
      exact ⟨A', c', B', d', _, by rw [HN.out]; rfl, hOf, hA2, hB2, hAb2, hBb2, hbf⟩
end Go.Proofs.Ytglnocclhhdbbaa
