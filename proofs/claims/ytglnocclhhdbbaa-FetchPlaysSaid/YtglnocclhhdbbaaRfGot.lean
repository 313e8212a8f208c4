/-
  What came is no more: the document.
-/
import Derived.Test.YtglnocclhhdbbaaRfA
set_option linter.unusedSimpArgs false
set_option linter.unusedVariables false
set_option maxRecDepth 10000
namespace Go.Proofs.Ytglnocclhhdbbaa
open Go.RowKit Go.Lib
open L3 (Blk Reads block_of_add add_of_add)
open L6 (Turn moreB fresh From In)

set_option maxHeartbeats 4000000 in
set_option maxRecDepth 100000 in
theorem rgot_any (s : FS) (A B : Option Addr) (c d : Nat) (n : Int) (w : World) (hA : RdI w A (numsOf s.L)) (hB : RdI w B (timsOf s.L)) (hz : s.L.length ≤ 16) :
    Calls Try.prog 12 #[.agg (rfV s (.slice A s.L.length c) (.slice B s.L.length d)), .int .i64 n] w (RFPost A B { s with L := gotL s.L n } (gotE s.L n) w) := by
  obtain ⟨i0, hi, hz0, hz1, hz2⟩ := info_parts intInfo
  have HA := Lib.hid hA
  have HB := Lib.hid hB
  have HH := Lib.hid (fun W (hb : Below w.heap.size w W) => (show Calls Try.prog 25 #[.agg (rfV s (.slice A s.L.length c) (.slice B s.L.length d)), .int .i64 n] W (gives (.bool (decide (wanted s.L n))) W) from by
    have := rhas_any s A c (.slice B s.L.length d) (numsOf s.L) n W (hA.below hb) (by rw [nums_len]; omega)
    rw [nums_len] at this
    have e : decide (n ∈ numsOf s.L) = decide (wanted s.L n) := decide_eq_decide.2 wanted_nums.symm
    rw [e] at this
    exact this))
  obtain ⟨z, hzz⟩ : ∃ z, z = s.L.length := ⟨_, rfl⟩
  obtain ⟨t, ht⟩ : ∃ t, t = decide (wanted s.L n) := ⟨_, rfl⟩
  rw [← hzz, ← ht] at HH
  rw [← hzz] at hz ⊢
  have HZ := Lib.hid hzz
  have HT := Lib.hid ht
  have k0 : Blk ((w.alloc (.cells (rfV s (.slice A z c) (.slice B z d)) 30)).alloc (.cells (rfV zeroFS (.slice none 0 0) (.slice none 0 0)) 30)) w.heap.size 30 (rfV s (.slice A z c) (.slice B z d)) := (rfNew w _ _ _).alloc _
  have k1 : Blk ((w.alloc (.cells (rfV s (.slice A z c) (.slice B z d)) 30)).alloc (.cells (rfV zeroFS (.slice none 0 0) (.slice none 0 0)) 30)) (w.heap.size + 1) 30 (rfV zeroFS (.slice none 0 0) (.slice none 0 0)) := by simpa using rfNew (w.alloc (.cells (rfV s (.slice A z c) (.slice B z d)) 30)) zeroFS (.slice none 0 0) (.slice none 0 0)
  have hb0 : Below w.heap.size w ((w.alloc (.cells (rfV s (.slice A z c) (.slice B z d)) 30)).alloc (.cells (rfV zeroFS (.slice none 0 0) (.slice none 0 0)) 30)) := (below_new w _).alloc (by simp) _
  have hs0 : ((w.alloc (.cells (rfV s (.slice A z c) (.slice B z d)) 30)).alloc (.cells (rfV zeroFS (.slice none 0 0) (.slice none 0 0)) 30)).heap.size = w.heap.size + 2 := by simp
  obtain ⟨W0, hW0⟩ : ∃ W0, W0 = (w.alloc (.cells (rfV s (.slice A z c) (.slice B z d)) 30)).alloc (.cells (rfV zeroFS (.slice none 0 0) (.slice none 0 0)) 30) := ⟨_, rfl⟩
  rw [← hW0] at k0 k1 hb0 hs0
  have hE : (w.alloc (.cells (rfV s (.slice A z c) (.slice B z d)) 30)).alloc (.cells #[.int .i64 0, .int .i64 0, .int .i64 0, .int .i64 0, .slice none 0 0, .slice none 0 0] 30) = W0 := hW0.symm
  clear hA hB hzz ht hW0
  cases t with
  | false =>
    have hnw : ¬ wanted s.L n := of_decide_eq_false HT.out.symm
    have HE : Hid (gotE s.L n = 160) := Lib.hid (if_neg hnw)
    have HL : Hid (gotL s.L n = s.L) := Lib.hid (gotL_not hnw)
    clear hnw
    go_enter Try.func12, Try.ntmps12
    go_upto_region 1 with fail
    clear hE
    go_upto_region 2 with (first
      | (refine wpList_row_at rfl _ _ rfl w.heap.size rfl _ _ _ _ k0 Try.underlying30 rfl rfInfo ?_)
      | (go_at_call 25; refine (HH.out _ hb0).mono ?_; unfold gives; rintro e w2 ⟨rfl, hb2⟩)
      | go_in)
    have q0 := k0.below hb2 k0.lt
    have q1 := k1.below hb2 k1.lt
    go_wp2_with (first
      | (refine wpList_row_at rfl _ _ rfl w.heap.size rfl _ _ _ _ q0 Try.underlying30 rfl rfInfo ?_)
      | (refine wpList_store_row rfl _ _ _ rfl (w.heap.size + 1) (rfV s (.slice A z c) (.slice B z d)) rfl rfl _ _ q1 rfInfo rfl (rfV_ones _ _ _ _ _ _ _) ?_)
      | go_in)
    (try simp only [Exit.inBlock, Exit.then])
    refine bodyPost_ret (results_row2 rfl _ _ (w.heap.size + 1) rfl _ rfl _ (rfV s (.slice A z c) (.slice B z d)) _ _ (blk_setRow q1) Try.underlying30 rfl rfInfo) rfl ?_
    have hbz := below_setRow (cs := rfV s (.slice A z c) (.slice B z d)) (nxt hb0 hb2) (Nat.le_succ w.heap.size)
    rw [HL.out, HE.out]
    exact ⟨A, c, B, d, by rw [HZ.out]; rfl, HA.out.below hbz, HB.out.below hbz, fun ad e => .inl e, fun ad e => .inl e, hbz⟩
  | true =>
    have hw : wanted s.L n := of_decide_eq_true HT.out.symm
    have HE : Hid (gotE s.L n = 0) := Lib.hid (if_pos hw)
    clear hw
    go_enter Try.func12, Try.ntmps12
    go_upto_region 1 with fail
    clear hE
    go_upto_region 3 with (first
      | (refine wpList_row_at rfl _ _ rfl w.heap.size rfl _ _ _ _ k0 Try.underlying30 rfl rfInfo ?_)
      | (go_at_call 25; refine (HH.out _ hb0).mono ?_; unfold gives; rintro e w2 ⟨rfl, hb2⟩)
      | go_in)
    have q0 := k0.below hb2 k0.lt
    have q1 := k1.below hb2 k1.lt
    have hbz := nxt hb0 hb2
    have hsz : w.heap.size + 2 ≤ w2.heap.size := by rw [← hs0]; exact hb2.size
    clear k0 k1 hb0 hb2 hs0 HH
    go_upto_region 4 with (first
      | (refine wpList_row_at rfl _ _ rfl w.heap.size rfl _ _ _ _ q0 Try.underlying30 rfl rfInfo ?_)
      | (refine wpList_store_new rfl _ _ _ rfl w2 (rfV s (.slice A z c) (.slice B z d)) rfl rfl 30 _ rfInfo rfl (rfV_ones _ _ _ _ _ _ _) ?_)
      | go_in)
    have hb3 := below_new w2 (.cells (rfV s (.slice A z c) (.slice B z d)) 30)
    have q2 := rfNew w2 s (.slice A z c) (.slice B z d)
    have p0 := q0.below hb3 q0.lt
    have p1 := q1.below hb3 q1.lt
    have hbz3 := nxt hbz hb3
    obtain ⟨w3, hw3⟩ : ∃ w3, w3 = w2.alloc (.cells (rfV s (.slice A z c) (.slice B z d)) 30) := ⟨_, rfl⟩
    rw [← hw3] at q2 p0 p1 hbz3 ⊢
    obtain ⟨b, hbb⟩ : ∃ b, b = w2.heap.size := ⟨_, rfl⟩
    rw [← hbb] at q2 hsz ⊢
    have c4 : w3.cell? ⟨b, 4, none⟩ = some (.slice A z c) := q2.cell 4
    have c5 : w3.cell? ⟨b, 5, none⟩ = some (.slice B z d) := q2.cell 5
    have f4 := q2.frozen 4
    have f5 := q2.frozen 5
    obtain ⟨br, hbr⟩ : ∃ br, br = w.heap.size + 1 := ⟨_, rfl⟩
    rw [← hbr] at p1 ⊢
    have HBR := Lib.hid hbr
    clear hbr
    obtain ⟨bx, hbx⟩ : ∃ bx, bx = w.heap.size := ⟨_, rfl⟩
    rw [← hbx] at p0 ⊢
    have HBX := Lib.hid hbx
    clear hw3 hbb q0 q1 hbz hb3 hbx
    go_upto_region 7 with fail
    have hT : Turn (fun i => i = b) w3 ((w3.setCell ⟨b, 4, none⟩ (.slice none 0 0)).setCell ⟨b, 5, none⟩ (.slice none 0 0)) := ((L6.Turn.refl (fun i => i = b) w3).setCell (p := ⟨b, 4, none⟩) (.inl rfl) _).setCell (p := ⟨b, 5, none⟩) (.inl rfl) _
    have hG0 : GAt w bx b br s (.slice A z c) (.slice B z d) (.slice none 0 0) (.slice none 0 0) [] [] ((w3.setCell ⟨b, 4, none⟩ (.slice none 0 0)).setCell ⟨b, 5, none⟩ (.slice none 0 0)) :=
      ⟨hT.blk p0 (by rw [HBX.out]; omega), YAt.start w s (hbz3.trans (hT.below (fun i e => by omega) hbz3.size)) ((q2.set_ 4 _).set_ 5 _) (by omega), by rw [HBX.out]; omega, hT.blk p1 (by rw [HBR.out]; omega), by rw [HBR.out]; omega⟩
    obtain ⟨w4, hw4⟩ : ∃ W, W = (w3.setCell ⟨b, 4, none⟩ (.slice none 0 0)).setCell ⟨b, 5, none⟩ (.slice none 0 0) := ⟨_, rfl⟩
    rw [← hw4] at hG0 ⊢
    have HG0 := Lib.hid hG0
    clear hw4 hT q2 p0 p1 c4 c5 f4 f5 hbz3 hG0
    go_loopw [7] (fun i wr => ∃ (k : Nat) (u v : Value), i = .int .i64 k ∧ k ≤ z ∧ GAt w bx b br s (.slice A z c) (.slice B z d) u v (numsOf (gotL (s.L.take k) n)) (timsOf (gotL (s.L.take k) n)) wr) (fun i _ => z - (RowKit.intOf i).toNat)
    case atStart => exact ⟨0, _, _, rfl, Nat.zero_le _, by rw [List.take_zero]; exact HG0.out⟩
    case round =>
      obtain ⟨k, u, v, rfl, hk, hG⟩ := hrel
      have rb : wr.cell? ⟨bx, 4, none⟩ = some (.slice A z c) := hG.x.cell 4
      by_cases hlt : k < z
      · have hkL : k < s.L.length := by rw [← HZ.out]; exact hlt
        have hst := gotL_step hkL n
        obtain ⟨ad4, hA4, hl4, hc4⟩ := RdI.cell HA.out (j := k) (by rw [nums_len]; exact hkL)
        obtain ⟨ad5, hA5, hl5, hc5⟩ := RdI.cell HB.out (j := k) (by rw [tims_len]; exact hkL)
        subst hA4 hA5
        rw [get_nums hkL] at hc4
        rw [get_tims hkL] at hc5
        obtain ⟨y, hy⟩ : ∃ y, y = s.L[k] := ⟨_, rfl⟩
        rw [← hy] at hc4 hc5 hst
        obtain ⟨F, hF⟩ : ∃ F, F = gotL (s.L.take k) n := ⟨_, rfl⟩
        rw [← hF] at hG hst
        have hFl : F.length ≤ k := by rw [hF]; have := List.length_filter_le (fun x : Wnt => decide (x.n ≠ n)) (s.L.take k); rw [List.length_take] at this; unfold gotL; omega
        have HST := Lib.hid hst
        clear hst hy hF hkL
        have ra : wr.cell? (ad4.add k) = some (.int .i64 y.n) := (hG.y.bw.cell (by rw [block_of_add]; exact hl4)).trans hc4
        by_cases he : y.n = n
        · have hq : (y.n != n) = false := by simpa using he
          have HE2 := Lib.hid (HST.out.trans (if_pos he))
          clear he
          go_wp2
          go_roundw
          case rel => exact ⟨k + 1, u, v, by go_num, by omega, by rw [HE2.out]; exact hG⟩
          case measure => simp [RowKit.intOf]; omega
        · have hq : (y.n != n) = true := by simpa using he
          have HE2 := Lib.hid (HST.out.trans (if_neg he))
          clear he HST
          obtain ⟨l0, m0⟩ := lists_snoc (L := F ++ [y]) (F := F) (y := y) rfl
          obtain ⟨n0, hn0⟩ : ∃ n0, n0 = F.length := ⟨_, rfl⟩
          have hln : (numsOf F).length = n0 := by rw [nums_len, hn0]
          have hlm : (timsOf F).length = n0 := by rw [tims_len, hn0]
          have hmax : n0 + 1 ≤ maxLen := by unfold maxLen; omega
          have hn16 : n0 ≤ 16 := by omega
          have HLM := Lib.hid (And.intro l0 m0)
          obtain ⟨l, hl⟩ : ∃ l, l = numsOf F := ⟨_, rfl⟩
          obtain ⟨m, hm⟩ : ∃ m, m = timsOf F := ⟨_, rfl⟩
          rw [← hl] at hG hln HLM
          rw [← hm] at hG hlm HLM
          clear hn0 hl hm l0 m0
          go_upto_region 10 with fail
          clear ra rb
          have hda := hG.below (Below.refl _ _).drew
          have hea : wr.drew.cell? (ad4.add k) = some (.int .i64 y.n) := (hda.y.bw.cell (by rw [block_of_add]; exact hl4)).trans hc4
          have hHa := hda.hold hea
          (try simp only [Act.put])
          refine wp_region_K (RdH bx b s (.slice (some ad4) z c) (.slice (some ad5) z d) u v (ad4.add k) (.int .i64 y.n)) [0, 1, 2, 3, 4, 5, 6] (by kernel_rfl) ?_
          refine wpK_quiet (f := 4) (by kernel_rfl) (fun _ x _ _ _ h => by cases x <;> exact h) hHa [0, 1, 2, 3, 4, 5, 6] _ _ (by kernel_rfl) (by kernel_rfl) (by kernel_rfl) ?_
          have nea : Nonempty (WorldIn (RdH bx b s (.slice (some ad4) z c) (.slice (some ad5) z d) u v (ad4.add k) (.int .i64 y.n))) := ⟨⟨_, hHa⟩⟩
          have g0a : ∀ h0 : WorldIn (RdH bx b s (.slice (some ad4) z c) (.slice (some ad5) z d) u v (ad4.add k) (.int .i64 y.n)), h0.w.cell? ⟨b, 4, none⟩ = some u := fun h0 => h0.h.y.cell 4
          have g1a : ∀ h0 : WorldIn (RdH bx b s (.slice (some ad4) z c) (.slice (some ad5) z d) u v (ad4.add k) (.int .i64 y.n)), h0.w.cell? ⟨bx, 4, none⟩ = some (.slice (some ad4) z c) := fun h0 => h0.h.x.cell 4
          have g2a : ∀ h0 : WorldIn (RdH bx b s (.slice (some ad4) z c) (.slice (some ad5) z d) u v (ad4.add k) (.int .i64 y.n)), h0.w.cell? (ad4.add k) = some (.int .i64 y.n) := fun h0 => h0.h.e
          conv => arg 5; simp [pick]
          repeat go_big_quiet_step (fail)
          refine wpQuiet_nil ?_
          clear nea g0a g1a g2a hea
          obtain ⟨wda, hwda⟩ : ∃ W, W = wr.drew := ⟨_, rfl⟩
          rw [← hwda] at hda hHa ⊢
          clear hwda
          refine wpK_step 7 (by kernel_rfl) rfl ?_
          have hbna := below_new wda (.cells #[.int .i64 y.n] 3)
          have hG2a := hda.below hbna
          have hH2a := hHa.below hbna
          go_wp2
          refine stepQ.mk ⟨fun _ => hH2a, ?_⟩
          refine wpK_step 8 (by kernel_rfl) rfl ?_
          have hroa := hG2a.y.o4
          unfold OwnI at hroa
          rw [hln] at hroa
          have hbaa := hG2a.y.bw.size
          refine wpList_append_own_at _ rfl _ _ 28 rfl w.heap.size 3 i0 (.int .i64 0) 1 8 Try.underlying28 hi hz0 hz1 hz2 rfl (by decide) _ _ _ rfl hroa ⟨wda.heap.size, 0, none⟩ 1 1 [.int .i64 y.n] rfl rfl (cell_one_new _ _ _) (ints_oneCell .i64 [y.n]) hmax (by omega) hbaa ?_
          intro v3a w3a hr3a hg3a _ hat3a
          obtain ⟨A3a, c3a, rfl⟩ := own_slice hr3a
          have hH3a := hH2a.grown hroa hg3a (by rw [block_of_add]; exact hl4)
          go_wp2
          refine stepQ.mk ⟨fun _ => hH3a, ?_⟩
          refine wpK_seq [9, 10] _ _ _ (by kernel_rfl) ?_
          conv => arg 4; simp [pick]
          have f4a := hH3a.y.frozen 4
          have c4a : w3a.cell? ⟨b, 4, none⟩ = some u := hH3a.y.cell 4
          have hG1 := hG2a.app4 hln hr3a hg3a hat3a
          clear hda hHa hG2a hH2a hH3a hroa hbaa hbna hr3a hg3a hat3a hG
          go_upto_region 11 with fail
          obtain ⟨w5, hwa⟩ : ∃ W, W = w3a.setCell ⟨b, 4, none⟩ (.slice A3a (n0 + 1) c3a) := ⟨_, rfl⟩
          rw [← hwa] at hG1
          rw [← hwa]
          clear hwa f4a c4a
          have hdb := hG1.below (Below.refl _ _).drew
          have heb : w5.drew.cell? (ad5.add k) = some (.int .i64 y.t) := (hdb.y.bw.cell (by rw [block_of_add]; exact hl5)).trans hc5
          have hHb := hdb.hold heb
          (try simp only [Act.put])
          refine wp_region_K (RdH bx b s (.slice (some ad4) z c) (.slice (some ad5) z d) (.slice A3a (n0 + 1) c3a) v (ad5.add k) (.int .i64 y.t)) [0, 1, 2, 3, 4, 5, 6] (by kernel_rfl) ?_
          refine wpK_quiet (f := 4) (by kernel_rfl) (fun _ x _ _ _ h => by cases x <;> exact h) hHb [0, 1, 2, 3, 4, 5, 6] _ _ (by kernel_rfl) (by kernel_rfl) (by kernel_rfl) ?_
          have neb : Nonempty (WorldIn (RdH bx b s (.slice (some ad4) z c) (.slice (some ad5) z d) (.slice A3a (n0 + 1) c3a) v (ad5.add k) (.int .i64 y.t))) := ⟨⟨_, hHb⟩⟩
          have g0b : ∀ h0 : WorldIn (RdH bx b s (.slice (some ad4) z c) (.slice (some ad5) z d) (.slice A3a (n0 + 1) c3a) v (ad5.add k) (.int .i64 y.t)), h0.w.cell? ⟨b, 5, none⟩ = some v := fun h0 => h0.h.y.cell 5
          have g1b : ∀ h0 : WorldIn (RdH bx b s (.slice (some ad4) z c) (.slice (some ad5) z d) (.slice A3a (n0 + 1) c3a) v (ad5.add k) (.int .i64 y.t)), h0.w.cell? ⟨bx, 5, none⟩ = some (.slice (some ad5) z d) := fun h0 => h0.h.x.cell 5
          have g2b : ∀ h0 : WorldIn (RdH bx b s (.slice (some ad4) z c) (.slice (some ad5) z d) (.slice A3a (n0 + 1) c3a) v (ad5.add k) (.int .i64 y.t)), h0.w.cell? (ad5.add k) = some (.int .i64 y.t) := fun h0 => h0.h.e
          conv => arg 5; simp [pick]
          repeat go_big_quiet_step (fail)
          refine wpQuiet_nil ?_
          clear neb g0b g1b g2b heb
          obtain ⟨wdb, hwdb⟩ : ∃ W, W = w5.drew := ⟨_, rfl⟩
          rw [← hwdb] at hdb hHb ⊢
          clear hwdb
          refine wpK_step 7 (by kernel_rfl) rfl ?_
          have hbnb := below_new wdb (.cells #[.int .i64 y.t] 3)
          have hG2b := hdb.below hbnb
          have hH2b := hHb.below hbnb
          go_wp2
          refine stepQ.mk ⟨fun _ => hH2b, ?_⟩
          refine wpK_step 8 (by kernel_rfl) rfl ?_
          have hrob := hG2b.y.o5
          unfold OwnI at hrob
          rw [hlm] at hrob
          have hbab := hG2b.y.bw.size
          refine wpList_append_own_at _ rfl _ _ 28 rfl w.heap.size 3 i0 (.int .i64 0) 1 8 Try.underlying28 hi hz0 hz1 hz2 rfl (by decide) _ _ _ rfl hrob ⟨wdb.heap.size, 0, none⟩ 1 1 [.int .i64 y.t] rfl rfl (cell_one_new _ _ _) (ints_oneCell .i64 [y.t]) hmax (by omega) hbab ?_
          intro v3b w3b hr3b hg3b _ hat3b
          obtain ⟨A3b, c3b, rfl⟩ := own_slice hr3b
          have hH3b := hH2b.grown hrob hg3b (by rw [block_of_add]; exact hl5)
          go_wp2
          refine stepQ.mk ⟨fun _ => hH3b, ?_⟩
          refine wpK_seq [9, 10] _ _ _ (by kernel_rfl) ?_
          conv => arg 4; simp [pick]
          have f4b := hH3b.y.frozen 5
          have c4b : w3b.cell? ⟨b, 5, none⟩ = some v := hH3b.y.cell 5
          have hG2 := hG2b.app5 hlm hr3b hg3b hat3b
          clear hdb hHb hG2b hH2b hH3b hrob hbab hbnb hr3b hg3b hat3b hG1
          go_wp2
          go_roundw
          case rel => exact ⟨k + 1, _, _, by go_num, by omega, by rw [HE2.out, HLM.out.1, HLM.out.2]; exact hG2⟩
          case measure => simp [RowKit.intOf]; omega
      · obtain rfl : k = z := by omega
        have hq4 := hG.y.y
        have hq1 := hG.r
        have e : s.L.take k = s.L := by rw [HZ.out, List.take_length]
        rw [e] at hG
        have e2 : (gotL s.L n).length = (gotL s.L n).length := rfl
        obtain ⟨A', c', rfl, hA', hAb⟩ := OwnI.rd hG.y.o4
        obtain ⟨B', d', rfl, hB', hBb⟩ := OwnI.rd hG.y.o5
        rw [nums_len, tims_len] at hq4
        obtain ⟨N, hN⟩ : ∃ N, N = (gotL s.L n).length := ⟨_, rfl⟩
        rw [← hN] at hq4
        have HN := Lib.hid hN
        have hbz := hG.y.bw
        have HGG := Lib.hid hG
        clear hN hG
        go_wp2_with (first
          | (refine wpList_row_at rfl _ _ rfl b rfl _ _ _ _ hq4 Try.underlying30 rfl rfInfo ?_)
          | (refine wpList_store_row rfl _ _ _ rfl br (rfV s (.slice A' N c') (.slice B' N d')) rfl rfl _ _ hq1 rfInfo rfl (rfV_ones _ _ _ _ _ _ _) ?_)
          | go_in)
        (try simp only [Exit.inBlock, Exit.then])
        refine bodyPost_ret (results_row2 rfl _ _ br rfl _ rfl _ (rfV s (.slice A' N c') (.slice B' N d')) _ _ (blk_setRow hq1) Try.underlying30 rfl rfInfo) rfl ?_
        have hrw := turn_row wr br (rfV s (.slice A' N c') (.slice B' N d'))
        have hbf := below_setRow (cs := rfV s (.slice A' N c') (.slice B' N d')) hbz (show w.heap.size ≤ br by rw [HBR.out]; omega)
        have o4 := hrw.row HGG.out.y.o4 (fun i h1 h2 => row_ne HGG.out.y.o4 hq1 (by decide) (by rw [h1, h2]))
        have o5 := hrw.row HGG.out.y.o5 (fun i h1 h2 => row_ne HGG.out.y.o5 hq1 (by decide) (by rw [h1, h2]))
        obtain ⟨A2, c2, eA, hA2, hAb2⟩ := OwnI.rd (l := numsOf (gotL s.L n)) o4
        obtain ⟨B2, d2, eB, hB2, hBb2⟩ := OwnI.rd (l := timsOf (gotL s.L n)) o5
        injection eA with eA1 _ _
        injection eB with eB1 _ _
        subst eA1 eB1
        exact ⟨A', c', B', d', by rw [HE.out, HN.out]; rfl, hA2, hB2, fun ad e => .inr (hAb2 ad e), fun ad e => .inr (hBb2 ad e), hbf⟩
end Go.Proofs.Ytglnocclhhdbbaa
