/-
  A tree shows what the document's does, of any number.
-/
import Derived.Test.YtgclofemhhhepaaShowP
set_option linter.unusedSimpArgs false
set_option linter.unusedVariables false
set_option maxRecDepth 10000
namespace Go.Proofs.Ytgclofemhhhepaa
open Go.RowKit Go.Maps Go.Lib
open L3 (Blk Reads block_of_add add_of_add)
open L6 (Turn moreB fresh From In)

def blQ (b : Bl) : List Value := [.int .i64 b.v, .int .i64 b.rd, .int .i64 0, .int .i64 0, .int .i64 0, .int .i64 b.p, .int .i64 0, .int .i64 b.pr, .int .i64 0, .int .i64 0, .int .u32 0, .int .u32 0, .slice none 0 0, .slice none 0 0]
theorem blQ_info : (Try.prog.info? 39).map (·.size) = some 14 := by kernel_rfl
theorem sub_blk {w : World} {g : Nat} {ty : TypeId} {y : Ent} (h : Blk w g ty (enC y)) : ∀ j u, (blQ y.b)[j]? = some u → w.cell? ((⟨g, 1, none⟩ : Addr).add j) = some u := by
  intro j u hj
  have h2 := h.cell (1 + j)
  have e : (⟨g, 1, none⟩ : Addr).add j = ⟨g, 1 + j, none⟩ := by unfold Addr.add; split <;> simp_all
  rw [e, h2]
  match j, hj with
  | 0, hj | 1, hj | 2, hj | 3, hj | 4, hj | 5, hj | 6, hj | 7, hj | 8, hj | 9, hj | 10, hj | 11, hj | 12, hj | 13, hj => exact hj
  | j + 14, hj => simp [blQ] at hj
/-- What the first comparison meets: the blocks that both gave. -/
structure Sh3 (w : World) (m r rd : Int) (A : Option Addr) (z c g1 g2 : Nat) (y : Ent) (W0 X : World) : Prop where
  tb : Blk X w.heap.size 30 (rtC m r rd A z c)
  b1 : Blk X g1 39 (blC y.b)
  b2 : Blk X g2 68 (enC y)
  bw : Below W0.heap.size W0 X
theorem Sh3.below {w : World} {m r rd : Int} {A : Option Addr} {z c g1 g2 : Nat} {y : Ent} {W0 X Y : World} (h : Sh3 w m r rd A z c g1 g2 y W0 X) (hb : Below X.heap.size X Y) : Sh3 w m r rd A z c g1 g2 y W0 Y :=
  ⟨h.tb.below hb h.tb.lt, h.b1.below hb h.b1.lt, h.b2.below hb h.b2.lt, nxt h.bw hb⟩
set_option maxHeartbeats 4000000 in
set_option maxRecDepth 100000 in
theorem shows_any {w : World} {S : Nat → Prop} {g : Nat} {s : TS} (hT : Tr w S g s) (hs : s.wf) (hl : s.L.length ≤ 100000) (A : Option Addr) (c : Nat) (hr : Rd enL 16 w A s.L) (n : Int) (hn : inI n) :
    Calls Try.prog 14 #[.pointer (some ⟨g, 0, none⟩), .agg (rtC s.most s.root s.round A s.L.length c), .int .i64 n] w (gives (.bool true) w) := by
  obtain ⟨lp, hlp, hP1, hP2⟩ := paths_any hs hl n hn
  obtain ⟨lm, hlm, hM1, hM2⟩ := misses_any hs hl
  have HP1 := Lib.hid (fun W (hb : Below w.heap.size w W) => hP1 W S g (hT.below hb))
  have HP2 := Lib.hid (fun W (hb : Below w.heap.size w W) => hP2 W A c (hr.below hb))
  have HM1 := Lib.hid (fun W (hb : Below w.heap.size w W) => hM1 W S g (hT.below hb))
  have HM2 := Lib.hid (fun W (hb : Below w.heap.size w W) => hM2 W A c (hr.below hb))
  have HG := Lib.hid (fun W (hb : Below w.heap.size w W) => by
    have h2 := get_any (hT.below hb) n hn
    rw [(get_parts hs.one.1 n).1, (get_parts hs.one.1 n).2] at h2
    exact h2)
  have HAT := Lib.hid (fun W (hb : Below w.heap.size w W) => rat_any s.most s.root s.round A c s.L n W (hr.below hb) (by omega))
  have HSM := Lib.hid (fun W => same_self _ (at_wf hs n) W)
  obtain ⟨hv, hhv⟩ : ∃ hv, hv = decide (hasV s.root s.L n) := ⟨_, rfl⟩
  have HH1 := Lib.hid (fun W (hb : Below w.heap.size w W) => has_is (hT.below hb) n hv hn hhv.symm)
  have HH2 := Lib.hid (fun W (hb : Below w.heap.size w W) => by
    have h2 := rhas_any s.most s.root s.round A c s.L n W (hr.below hb) hs.one.1 (by omega)
    rw [← hhv] at h2
    exact h2)
  have HLN := Lib.hid (fun W (hb : Below w.heap.size w W) => len_any (hT.below hb) hs.one hs.n)
  have HRT := Lib.hid (fun W (hb : Below w.heap.size w W) => root_any (hT.below hb))
  have HOR := Lib.hid (fun W (hb : Below w.heap.size w W) => rorph_any s.most s.root s.round A c s.L W (hr.below hb) (by omega))
  have hil := in_len s.L
  obtain ⟨y, hy⟩ : ∃ y, y = (atV s.L n).getD zeroEn := ⟨_, rfl⟩
  obtain ⟨kb, hkb⟩ : ∃ kb, kb = (atV s.L n).isSome := ⟨_, rfl⟩
  rw [← hy, ← hkb] at HG HAT
  rw [← hy] at HSM
  obtain ⟨ke, hke⟩ : ∃ ke : Int, ke = if kb = true then 0 else 50 := ⟨_, rfl⟩
  rw [← hke] at HG
  have HKE := Lib.hid hke
  clear hke
  obtain ⟨lk, hlk⟩ : ∃ lk, lk = lackE s n := ⟨_, rfl⟩
  rw [← hlk] at HP1 HP2
  obtain ⟨m, r, rd, L⟩ := s
  dsimp only at *
  obtain ⟨om, hom⟩ : ∃ om : Nat, om = orph L := ⟨_, rfl⟩
  obtain ⟨im, him⟩ : ∃ im : Nat, im = (inN L).length := ⟨_, rfl⟩
  obtain ⟨z, hz⟩ : ∃ z, z = L.length := ⟨_, rfl⟩
  rw [← him, ← hom] at HLN
  rw [← hom] at HOR
  rw [← hom, ← him, ← hz] at hil
  rw [← hz] at HP2 HM2 HAT HH2 HOR hl ⊢
  have k0 : Blk (w.alloc (.cells (rtC m r rd A z c) 30)) w.heap.size 30 (rtC m r rd A z c) := Blk.new _ _ _
  have hb0 := below_new w (.cells (rtC m r rd A z c) 30)
  obtain ⟨W0, hW0⟩ : ∃ W0, W0 = w.alloc (.cells (rtC m r rd A z c) 30) := ⟨_, rfl⟩
  rw [← hW0] at k0 hb0
  have hE := hW0.symm
  have H1 := Lib.hid (HG.out W0 hb0)
  clear hT hs hr hP1 hP2 hM1 hM2 hhv hy hkb hlk hom him hz hW0 HG
  go_enter Try.func14, Try.ntmps14
  go_upto_region 1 with fail
  clear hE
  go_upto_region 2 with (first
    | (go_at_call 21; refine H1.out.mono ?_; unfold gives; rintro e1 w1 ⟨rfl, hb1⟩)
    | (refine wpList_store_new rfl _ _ _ rfl w1 (blC y.b) rfl rfl 39 _ blInfo rfl (blC_ones _) ?_)
    | go_in)
  have kb1 : Blk (w1.alloc (.cells (blC y.b) 39)) w1.heap.size 39 (blC y.b) := Blk.new _ _ _
  have hb2 := nxt hb1 (below_new w1 (.cells (blC y.b) 39))
  obtain ⟨w2, hw2⟩ : ∃ w2, w2 = w1.alloc (.cells (blC y.b) 39) := ⟨_, rfl⟩
  rw [← hw2] at kb1 hb2
  rw [← hw2]
  obtain ⟨g1, hg1⟩ : ∃ g1, g1 = w1.heap.size := ⟨_, rfl⟩
  rw [← hg1] at kb1
  rw [← hg1]
  have kt2 := k0.below hb2 k0.lt
  have hbw2 := nxt hb0 hb2
  have H2 := Lib.hid (HAT.out w2 hbw2)
  clear hw2 hg1 hb1 hb2 k0 hb0 H1 HAT
  go_upto_region 3 with (first
    | (refine wpList_row_at rfl _ _ rfl w.heap.size rfl _ _ _ _ kt2 Try.underlying30 rfl rtInfo ?_)
    | (go_at_call 22; refine H2.out.mono ?_; unfold gives; rintro e3 w3 ⟨rfl, hb3⟩)
    | (refine wpList_store_new rfl _ _ _ rfl w3 (enC y) rfl rfl 68 _ enInfo rfl (enC_ones _) ?_)
    | go_in)
  have kb2 : Blk (w3.alloc (.cells (enC y) 68)) w3.heap.size 68 (enC y) := Blk.new _ _ _
  have hb4 := nxt hb3 (below_new w3 (.cells (enC y) 68))
  obtain ⟨w4, hw4⟩ : ∃ w4, w4 = w3.alloc (.cells (enC y) 68) := ⟨_, rfl⟩
  rw [← hw4] at kb2 hb4
  rw [← hw4]
  obtain ⟨g2, hg2⟩ : ∃ g2, g2 = w3.heap.size := ⟨_, rfl⟩
  rw [← hg2] at kb2
  rw [← hg2]
  have hbw4 := nxt hbw2 hb4
  have hS : Sh3 w m r rd A z c g1 g2 y w4 w4.drew := ⟨(kt2.below hb4 kt2.lt).drew, (kb1.below hb4 kb1.lt).drew, kb2.drew, (Below.refl _ _).drew⟩
  clear hw4 hg2 hb3 hb4 kt2 hbw2 H2 kb1 kb2
  go_cut [58] from 31 to 57 (fun s58 wx => s58 = .bool false ∧ Below w.heap.size w wx ∧ Blk wx w.heap.size 30 (rtC m r rd A z c))
  case first =>
    refine wp_region_S (Sh3 w m r rd A z c g1 g2 y w4) (by kernel_rfl) (by kernel_rfl) hS ?_
    have ne : Nonempty (WorldIn (Sh3 w m r rd A z c g1 g2 y w4)) := ⟨⟨_, hS⟩⟩
    cases kb with
    | true =>
      have hke : ke = 0 := HKE.out
      subst hke
      repeat (first
        | (refine wpQuiet_row rfl _ _ rfl g1 rfl _ _ _ _ (fun y => y.h.b1) Try.underlying39 rfl blInfo ?_
           conv => arg 6; simp only [Act.put, List.setIfInBounds_toArray, List.set_cons_zero, List.set_cons_succ])
        | (refine wpQuiet_cells rfl _ _ rfl ⟨g2, 1, none⟩ rfl (blQ y.b) _ (fun z => sub_blk z.h.b2) Try.underlying39 rfl blQ_info ?_
           conv => arg 6; simp only [Act.put, List.setIfInBounds_toArray, List.set_cons_zero, List.set_cons_succ])
        | (refine wpQuiet_row rfl _ _ rfl w.heap.size rfl _ _ _ _ (fun y => y.h.tb) Try.underlying30 rfl rtInfo ?_
           conv => arg 6; simp only [Act.put, List.setIfInBounds_toArray, List.set_cons_zero, List.set_cons_succ])
        | (refine wpQuiet_fn rfl 33 _ _ rfl Try.call33 [.agg (blC y.b), .agg (blQ y.b).toArray] rfl (v := .bool true) (fun x => (HSM.out x.w).mono fun e w' ⟨he, hb⟩ => ⟨he, x.h.below hb⟩) ?_
           conv => arg 6; simp only [Act.put, List.setIfInBounds_toArray, List.set_cons_zero, List.set_cons_succ])
        | (refine wpQuiet_fn rfl 19 _ _ rfl Try.call19 [.pointer (some ⟨g, 0, none⟩), .int .i64 n] rfl (v := .bool hv) (fun x => (HH1.out x.w (nxt hbw4 x.h.bw)).mono fun e w' ⟨he, hb⟩ => ⟨he, x.h.below hb⟩) ?_
           conv => arg 6; simp only [Act.put, List.setIfInBounds_toArray, List.set_cons_zero, List.set_cons_succ])
        | (refine wpQuiet_fn rfl 23 _ _ rfl Try.call23 [.agg (rtC m r rd A z c), .int .i64 n] rfl (v := .bool hv) (fun x => (HH2.out x.w (nxt hbw4 x.h.bw)).mono fun e w' ⟨he, hb⟩ => ⟨he, x.h.below hb⟩) ?_
           conv => arg 6; simp only [Act.put, List.setIfInBounds_toArray, List.set_cons_zero, List.set_cons_succ])
        | go_big_quiet_step (fail))
      refine wpQuiet_nil ?_
      intro zz
      obtain ⟨W, hW⟩ := zz
      dsimp only
      have hbW := nxt hbw4 hW.bw
      have htW := hW.tb
      clear ne hS hW hbw4
      go_wp2
      go_meet
      case rel => exact ⟨rfl, hbW, htW⟩
    | false =>
      have hke : ke = 50 := HKE.out
      subst hke
      repeat (first
        | (refine wpQuiet_row rfl _ _ rfl g1 rfl _ _ _ _ (fun y => y.h.b1) Try.underlying39 rfl blInfo ?_
           conv => arg 6; simp only [Act.put, List.setIfInBounds_toArray, List.set_cons_zero, List.set_cons_succ])
        | (refine wpQuiet_cells rfl _ _ rfl ⟨g2, 1, none⟩ rfl (blQ y.b) _ (fun z => sub_blk z.h.b2) Try.underlying39 rfl blQ_info ?_
           conv => arg 6; simp only [Act.put, List.setIfInBounds_toArray, List.set_cons_zero, List.set_cons_succ])
        | (refine wpQuiet_row rfl _ _ rfl w.heap.size rfl _ _ _ _ (fun y => y.h.tb) Try.underlying30 rfl rtInfo ?_
           conv => arg 6; simp only [Act.put, List.setIfInBounds_toArray, List.set_cons_zero, List.set_cons_succ])
        | (refine wpQuiet_fn rfl 33 _ _ rfl Try.call33 [.agg (blC y.b), .agg (blQ y.b).toArray] rfl (v := .bool true) (fun x => (HSM.out x.w).mono fun e w' ⟨he, hb⟩ => ⟨he, x.h.below hb⟩) ?_
           conv => arg 6; simp only [Act.put, List.setIfInBounds_toArray, List.set_cons_zero, List.set_cons_succ])
        | (refine wpQuiet_fn rfl 19 _ _ rfl Try.call19 [.pointer (some ⟨g, 0, none⟩), .int .i64 n] rfl (v := .bool hv) (fun x => (HH1.out x.w (nxt hbw4 x.h.bw)).mono fun e w' ⟨he, hb⟩ => ⟨he, x.h.below hb⟩) ?_
           conv => arg 6; simp only [Act.put, List.setIfInBounds_toArray, List.set_cons_zero, List.set_cons_succ])
        | (refine wpQuiet_fn rfl 23 _ _ rfl Try.call23 [.agg (rtC m r rd A z c), .int .i64 n] rfl (v := .bool hv) (fun x => (HH2.out x.w (nxt hbw4 x.h.bw)).mono fun e w' ⟨he, hb⟩ => ⟨he, x.h.below hb⟩) ?_
           conv => arg 6; simp only [Act.put, List.setIfInBounds_toArray, List.set_cons_zero, List.set_cons_succ])
        | go_big_quiet_step (fail))
      refine wpQuiet_nil ?_
      intro zz
      obtain ⟨W, hW⟩ := zz
      dsimp only
      have hbW := nxt hbw4 hW.bw
      have htW := hW.tb
      clear ne hS hW hbw4
      go_wp2
      go_meet
      case rel => exact ⟨rfl, hbW, htW⟩
  case rest =>
    obtain ⟨rfl, hbw, kt⟩ := hcut
    clear hS hbw4
    have H5 := Lib.hid (HP1.out wc hbw)
    go_upto_region 6 with (first
      | (go_at_call 17; refine H5.out.mono ?_; unfold PthPost; rintro e5 w5 ⟨v5, rfl, hs5, hb5⟩)
      | go_in)
    have kt5 := kt.below hb5 kt.lt
    have hbw5 := nxt hbw hb5
    have H6 := Lib.hid (HP2.out w5 hbw5)
    clear hb5 kt hbw H5
    go_upto_region 7 with (first
      | (refine wpList_row_at rfl _ _ rfl w.heap.size rfl _ _ _ _ kt5 Try.underlying30 rfl rtInfo ?_)
      | (go_at_call 28; refine H6.out.mono ?_; unfold PthPost; rintro e6 w6 ⟨v6, rfl, hs6, hb6⟩)
      | go_in)
    have kt6 := kt5.below hb6 kt5.lt
    have hs5' := hs5.below hb6
    have hbw6 := nxt hbw5 hb6
    have H7 := Lib.hid (HLN.out w6 hbw6)
    clear hb6 kt5 hbw5 hs5 H6
    go_upto_region 8 with (first
      | (go_at_call 15; refine H7.out.mono ?_; unfold gives; rintro e7 w7 ⟨rfl, hb7⟩)
      | go_in)
    have kt7 := kt6.below hb7 kt6.lt
    have hs57 := hs5'.below hb7
    have hs67 := hs6.below hb7
    have hbw7 := nxt hbw6 hb7
    have H8 := Lib.hid (HRT.out w7 hbw7)
    clear hb7 kt6 hbw6 hs5' hs6 H7
    go_upto_region 9 with (first
      | (go_at_call 20; refine H8.out.mono ?_; unfold gives; rintro e8 w8 ⟨rfl, hb8⟩)
      | go_in)
    have kt8 := kt7.below hb8 kt7.lt
    have hs58 := hs57.below hb8
    have hs68 := hs67.below hb8
    have hbw8 := nxt hbw7 hb8
    clear hb8 kt7 hbw7 hs57 hs67 H8
    have HI1 := Lib.hid (fun W (hb : Below w8.heap.size w8 W) => by
      have h2 := ints_any (hs58.below hb) (hs68.below hb) (by omega)
      rw [decide_eq_true rfl] at h2
      exact h2)
    have HB8 := Lib.hid hbw8
    have HOR2 := Lib.hid (fun W (hb : Below w8.heap.size w8 W) => HOR.out W (nxt hbw8 hb))
    have HMS1 := Lib.hid (fun W (hb : Below w8.heap.size w8 W) => HM1.out W (nxt hbw8 hb))
    have HMS2 := Lib.hid (fun W (hb : Below w8.heap.size w8 W) => HM2.out W (nxt hbw8 hb))
    have hsub : IntKind.i64.wrap ((z : Int) - (om : Int)) = (im : Int) := by
      rw [IntWalk.i64_in _ (by omega)]
      omega
    have HSUB := Lib.hid hsub
    have hS : Below w8.heap.size w8 w8.drew := (Below.refl _ _).drew
    have KT := Lib.hid (fun W (hb : Below w8.heap.size w8 W) => kt8.below hb kt8.lt)
    clear hsub hs58 hs68 hbw8 kt8 HOR HM1 HM2 HP1 HP2 HLN HRT HSM HH1 HH2
    refine wp_region_K (Below w8.heap.size w8) [0, 1, 3, 4, 5, 6, 7, 8, 9, 10, 11, 13, 15, 16, 17, 18, 19, 20, 22, 23, 24, 25, 26, 27, 28, 29, 30, 31, 32, 33, 34, 35, 36, 37, 39] (by kernel_rfl) ?_
    have ne : Nonempty (WorldIn (Below w8.heap.size w8)) := ⟨⟨_, hS⟩⟩
    refine wpK_quiet (f := 42) (by kernel_rfl) (fun _ x _ _ _ h => by cases x <;> exact h) hS [0, 1] _ _ (by kernel_rfl) (by kernel_rfl) (by kernel_rfl) ?_
    conv => arg 5; simp [pick]
    iterate 2 go_big_quiet_step (fail)
    refine wpQuiet_nil ?_
    refine wpK_step 2 (by kernel_rfl) rfl ?_
    have HI2 := Lib.hid (HI1.out _ hS)
    go_wp2_with (go_at_call 18; (with_reducible refine HI2.out.mono ?_); unfold gives; rintro e9 w9 ⟨rfl, hb9⟩)
    have hS9 := nxt hS hb9
    refine stepQ.mk ⟨fun _ => hS9, ?_⟩
    clear HI2 hS hb9
    refine wpK_quiet (f := 31) (by kernel_rfl) (fun _ x _ _ _ h => by cases x <;> exact h) hS9 [3, 4, 5, 6, 7, 8, 9, 10, 11, 13] _ _ (by kernel_rfl) (by kernel_rfl) (by kernel_rfl) ?_
    have p3 : ∀ y : WorldIn (Below w8.heap.size w8), y.w.cell? ⟨w.heap.size, 3, none⟩ = some (.slice A z c) := fun y => (KT.out _ y.h).cell 3
    conv => arg 5; simp [pick]
    repeat (first
      | (refine wpQuiet_row rfl _ _ rfl w.heap.size rfl _ _ _ _ (fun y => KT.out _ y.h) Try.underlying30 rfl rtInfo ?_
         conv => arg 6; simp only [Act.put, List.setIfInBounds_toArray, List.set_cons_zero, List.set_cons_succ])
      | go_big_quiet_step (fail))
    refine wpQuiet_nil ?_
    clear p3
    refine wpK_two 12 14 (by kernel_rfl) rfl rfl ?_ ?_
    · go_wp2
      refine stepQ.mk ⟨fun _ => hS9, ?_⟩
      refine wpK_step 14 (by kernel_rfl) rfl ?_
      have HO2 := Lib.hid (HOR2.out _ hS9)
      go_wp2_with (go_at_call 24; (with_reducible refine HO2.out.mono ?_); unfold gives; rintro e10 w10 ⟨rfl, hb10⟩)
      have hS10 := nxt hS9 hb10
      refine stepQ.mk ⟨fun _ => hS10, ?_⟩
      clear hb10 HO2
      clear hS9
      have hsub := HSUB.out
      refine wpK_quiet (f := 23) (by kernel_rfl) (fun _ x _ _ _ h => by cases x <;> exact h) hS10 [15, 16, 17, 18, 19, 20] _ _ (by kernel_rfl) (by kernel_rfl) (by kernel_rfl) ?_
      conv => arg 5; simp [pick]
      repeat (first
        | (refine wpQuiet_row rfl _ _ rfl w.heap.size rfl _ _ _ _ (fun y => KT.out _ y.h) Try.underlying30 rfl rtInfo ?_
           conv => arg 6; simp only [Act.put, List.setIfInBounds_toArray, List.set_cons_zero, List.set_cons_succ])
        | go_big_quiet_step (fail))
      refine wpQuiet_nil ?_
      clear hsub
      have HO3 := Lib.hid (HOR2.out _ hS10)
      refine wpK_step 21 (by kernel_rfl) rfl ?_
      go_wp2_with (go_at_call 24; (with_reducible refine HO3.out.mono ?_); unfold gives; rintro e11 w11 ⟨rfl, hb11⟩)
      have hS11 := nxt hS10 hb11
      refine stepQ.mk ⟨fun _ => hS11, ?_⟩
      clear hb11 hS10 HO3
      refine wpK_quiet (f := 5) (by kernel_rfl) (fun _ x _ _ _ h => by cases x <;> exact h) hS11 [22, 23, 24, 25, 26, 27, 28, 29, 30, 31, 32, 33, 34, 35, 36, 37, 39] _ _ (by kernel_rfl) (by kernel_rfl) (by kernel_rfl) ?_
      have p1 : ∀ y : WorldIn (Below w8.heap.size w8), y.w.cell? ⟨w.heap.size, 1, none⟩ = some (.int .i64 r) := fun y => (KT.out _ y.h).cell 1
      have p2 : ∀ y : WorldIn (Below w8.heap.size w8), y.w.cell? ⟨w.heap.size, 2, none⟩ = some (.int .i64 rd) := fun y => (KT.out _ y.h).cell 2
      conv => arg 5; simp [pick]
      repeat (first
        | (refine wpQuiet_row rfl _ _ rfl w.heap.size rfl _ _ _ _ (fun y => KT.out _ y.h) Try.underlying30 rfl rtInfo ?_
           conv => arg 6; simp only [Act.put, List.setIfInBounds_toArray, List.set_cons_zero, List.set_cons_succ])
        | go_big_quiet_step (fail))
      refine wpQuiet_nil ?_
      clear p1 p2
      have HM3 := Lib.hid (HMS1.out _ hS11)
      refine wpK_step 38 (by kernel_rfl) rfl ?_
      go_wp2_with (go_at_call 16; (with_reducible refine HM3.out.mono ?_); unfold MsPost; rintro e12 w12 ⟨v12, rfl, hs12, hb12⟩)
      have hS12 := nxt hS11 hb12
      refine stepQ.mk ⟨fun _ => hS12, ?_⟩
      have HM4 := Lib.hid (HMS2.out _ hS12)
      clear hS11 hb12 HM3
      refine wpK_step 40 (by kernel_rfl) rfl ?_
      go_wp2_with (go_at_call 34; (with_reducible refine HM4.out.mono ?_); unfold MsPost; rintro e13 w13 ⟨v13, rfl, hs13, hb13⟩)
      have hS13 := nxt hS12 hb13
      refine stepQ.mk ⟨fun _ => hS13, ?_⟩
      have HI4 := Lib.hid (show Calls Try.prog 18 #[v12, v13] w13 (gives (.bool true) w13) from by
        have h2 := ints_any (hs12.below hb13) hs13 (by omega)
        rw [decide_eq_true rfl] at h2
        exact h2)
      clear hS12 hb13 HM4 hs12 hs13
      refine wpK_step 41 (by kernel_rfl) rfl ?_
      go_wp2_with (go_at_call 18; (with_reducible refine HI4.out.mono ?_); unfold gives; rintro e14 w14 ⟨rfl, hb14⟩)
      have hS14 := nxt hS13 hb14
      refine stepQ.mk ⟨fun _ => hS14, ?_⟩
      clear hS13 hb14 HI4
      refine wpK_step 42 (by kernel_rfl) rfl ?_
      go_wp2
      refine stepQ.mk ⟨fun _ => hS14, ?_⟩
      refine wpK_step 43 (by kernel_rfl) rfl ?_
      go_wp2
      refine stepQ.mk ⟨fun _ => hS14, ?_⟩
      refine wpK_seq [] _ _ _ (by kernel_rfl) ?_
      conv => arg 4; simp [pick]
      go_wp2
      go_ret
      exact ⟨rfl, nxt HB8.out hS14⟩
    · have HO2 := Lib.hid (HOR2.out _ hS9)
      go_wp2_with (go_at_call 24; (with_reducible refine HO2.out.mono ?_); unfold gives; rintro e10 w10 ⟨rfl, hb10⟩)
      have hS10 := nxt hS9 hb10
      refine stepQ.mk ⟨fun _ => hS10, ?_⟩
      clear hb10 HO2
      clear hS9
      refine wpK_step 12 (by kernel_rfl) rfl ?_
      go_wp2
      refine stepQ.mk ⟨fun _ => hS10, ?_⟩
      have hsub := HSUB.out
      refine wpK_quiet (f := 23) (by kernel_rfl) (fun _ x _ _ _ h => by cases x <;> exact h) hS10 [15, 16, 17, 18, 19, 20] _ _ (by kernel_rfl) (by kernel_rfl) (by kernel_rfl) ?_
      conv => arg 5; simp [pick]
      repeat (first
        | (refine wpQuiet_row rfl _ _ rfl w.heap.size rfl _ _ _ _ (fun y => KT.out _ y.h) Try.underlying30 rfl rtInfo ?_
           conv => arg 6; simp only [Act.put, List.setIfInBounds_toArray, List.set_cons_zero, List.set_cons_succ])
        | go_big_quiet_step (fail))
      refine wpQuiet_nil ?_
      clear hsub
      have HO3 := Lib.hid (HOR2.out _ hS10)
      refine wpK_step 21 (by kernel_rfl) rfl ?_
      go_wp2_with (go_at_call 24; (with_reducible refine HO3.out.mono ?_); unfold gives; rintro e11 w11 ⟨rfl, hb11⟩)
      have hS11 := nxt hS10 hb11
      refine stepQ.mk ⟨fun _ => hS11, ?_⟩
      clear hb11 hS10 HO3
      refine wpK_quiet (f := 5) (by kernel_rfl) (fun _ x _ _ _ h => by cases x <;> exact h) hS11 [22, 23, 24, 25, 26, 27, 28, 29, 30, 31, 32, 33, 34, 35, 36, 37, 39] _ _ (by kernel_rfl) (by kernel_rfl) (by kernel_rfl) ?_
      have p1 : ∀ y : WorldIn (Below w8.heap.size w8), y.w.cell? ⟨w.heap.size, 1, none⟩ = some (.int .i64 r) := fun y => (KT.out _ y.h).cell 1
      have p2 : ∀ y : WorldIn (Below w8.heap.size w8), y.w.cell? ⟨w.heap.size, 2, none⟩ = some (.int .i64 rd) := fun y => (KT.out _ y.h).cell 2
      conv => arg 5; simp [pick]
      repeat (first
        | (refine wpQuiet_row rfl _ _ rfl w.heap.size rfl _ _ _ _ (fun y => KT.out _ y.h) Try.underlying30 rfl rtInfo ?_
           conv => arg 6; simp only [Act.put, List.setIfInBounds_toArray, List.set_cons_zero, List.set_cons_succ])
        | go_big_quiet_step (fail))
      refine wpQuiet_nil ?_
      clear p1 p2
      have HM3 := Lib.hid (HMS1.out _ hS11)
      refine wpK_step 38 (by kernel_rfl) rfl ?_
      go_wp2_with (go_at_call 16; (with_reducible refine HM3.out.mono ?_); unfold MsPost; rintro e12 w12 ⟨v12, rfl, hs12, hb12⟩)
      have hS12 := nxt hS11 hb12
      refine stepQ.mk ⟨fun _ => hS12, ?_⟩
      have HM4 := Lib.hid (HMS2.out _ hS12)
      clear hS11 hb12 HM3
      refine wpK_step 40 (by kernel_rfl) rfl ?_
      go_wp2_with (go_at_call 34; (with_reducible refine HM4.out.mono ?_); unfold MsPost; rintro e13 w13 ⟨v13, rfl, hs13, hb13⟩)
      have hS13 := nxt hS12 hb13
      refine stepQ.mk ⟨fun _ => hS13, ?_⟩
      have HI4 := Lib.hid (show Calls Try.prog 18 #[v12, v13] w13 (gives (.bool true) w13) from by
        have h2 := ints_any (hs12.below hb13) hs13 (by omega)
        rw [decide_eq_true rfl] at h2
        exact h2)
      clear hS12 hb13 HM4 hs12 hs13
      refine wpK_step 41 (by kernel_rfl) rfl ?_
      go_wp2_with (go_at_call 18; (with_reducible refine HI4.out.mono ?_); unfold gives; rintro e14 w14 ⟨rfl, hb14⟩)
      have hS14 := nxt hS13 hb14
      refine stepQ.mk ⟨fun _ => hS14, ?_⟩
      clear hS13 hb14 HI4
      refine wpK_step 42 (by kernel_rfl) rfl ?_
      go_wp2
      refine stepQ.mk ⟨fun _ => hS14, ?_⟩
      refine wpK_step 43 (by kernel_rfl) rfl ?_
      go_wp2
      refine stepQ.mk ⟨fun _ => hS14, ?_⟩
      refine wpK_seq [] _ _ _ (by kernel_rfl) ?_
      conv => arg 4; simp [pick]
      go_wp2
      go_ret
      exact ⟨rfl, nxt HB8.out hS14⟩
end Go.Proofs.Ytgclofemhhhepaa
