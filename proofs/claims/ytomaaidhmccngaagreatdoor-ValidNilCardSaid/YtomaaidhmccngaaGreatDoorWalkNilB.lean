/-
  The walk of the law on no registers: of a block that may not be.
-/
import Derived.Test.YtomaaidhmccngaaGreatDoorWalkNil
set_option linter.unusedSimpArgs false
set_option linter.unusedVariables false
set_option maxRecDepth 10000
namespace Go.Proofs.YtomaaidhmccngaaGreatDoor
open Go.RowKit Go.Maps Go.Lib
open L3 (Blk Reads)
open L6 (Turn)
open L7 (Shr shrC shrL stmC)
open L11 (Crt crtC mayV)

set_option maxHeartbeats 8000000 in
set_option maxRecDepth 100000 in
theorem nil_walk1 (x : Crt) (t : Tmo) (b : Blo) (A : Option Addr) (c : Nat) (D : Option Addr) (d : Nat) (w : World) (hx : x.wf) (ht : t.wf) (hraw : b.raw) (hp : Rd tmL 10 w A b.proof) (htx : Rd txL 7 w D b.txs) (hT : T13 w) (hz : checkV b ≠ 0) :
    Calls Tryz.prog 6 #[.agg (crtC x), .agg (tmC t), .agg (bloC b (.slice A b.proof.length c) (.slice D b.txs.length d))] w (gives (.bool true) w) := by
  have Z := three_boxes w 29 31 57 (crtC x) (tmC t) (bloC b (.slice A b.proof.length c) (.slice D b.txs.length d))
  have N0 := Lib.hid (show NvAt w x t b A c D d _ from ⟨Z.1, Z.2.1, Z.2.2.1, hp.below Z.2.2.2, htx.below Z.2.2.2, Z.2.2.2⟩)
  have HT := Lib.hid (fun w' (hb : Below w.heap.size w w') => hT.kept hb)
  have HG := Lib.hid (fun W (h : NvAt w x t b A c D d W) => greatK_any b A c D d W hraw h.rp h.rt)
  have HSM := Lib.hid (fun hg => (great_small hraw hg).1)
  have HX := Lib.hid (And.intro hx ht)
  clear hp htx hT hraw hx ht Z
  go_enter Tryz.func6, Tryz.ntmps6
  go_upto_region 1 with fail
  refine name_world (fun w0 hw0 => ?_)
  have hA0 : NvAt w x t b A c D d w0 := by rw [hw0]; exact N0.out
  clear hw0 N0
  have hal := aliveV_any w0 (HT.out _ hA0.bw)
  go_upto_region 3 with (first
    | (go_at_call 8; refine hal.mono ?_; unfold gives; rintro e w1 ⟨rfl, hb1⟩))
  have hA1 := hA0.below hb1
  clear hA0 hb1 hal
  have hgr := HG.out w1 hA1
  rcases Bool.eq_false_or_eq_true (greatK b) with hg | hg
  · rw [hg] at hgr
    clear hg HSM HG
    go_wp2_with (first
      | (refine wpList_row_at rfl _ _ rfl (w.heap.size + 2) rfl _ _ _ _ hA1.bb Tryz.underlying57 rfl bloInfo ?_)
      | (go_at_call 24; refine hgr.mono ?_; unfold gives; rintro e w2 ⟨rfl, hb2⟩))
    go_ret
    exact ⟨rfl, nxt hA1.bw hb2⟩
  rw [hg] at hgr
  have hwf := HSM.out hg
  go_upto_region 6 with (first
    | (refine wpList_row_at rfl _ _ rfl (w.heap.size + 2) rfl _ _ _ _ hA1.bb Tryz.underlying57 rfl bloInfo ?_)
    | (go_at_call 24; refine hgr.mono ?_; unfold gives; rintro e w2 ⟨rfl, hb2⟩))
  have hA2 := hA1.below hb2
  have hA3 : NvL w x t b A c D d w2.heap.size (w2.alloc (.cells (lawA none none none) 39)) := ⟨hA2.below (below_new _ _), Blk.new _ _ _⟩
  obtain ⟨g, hgg⟩ : ∃ g, g = w2.heap.size := ⟨_, rfl⟩
  rw [← hgg] at hA3
  rw [← hgg]
  refine name_world (fun w3 hw3 => ?_)
  have hA : NvL w x t b A c D d g w3 := by rw [hw3]; exact hA3
  clear hA3 hw3 hgg hA2 hA1 hb2 hgr HG HSM hg
  have HC := Lib.hid (show Calls Tryz.prog 19 #[.agg (lawA none none none), .int .i64 x.block] w3 (fun e W' => ∃ A1 n1 c1 D1 m1 d1, e = .returned (.tuple #[.agg (bloC zeroB (.slice A1 n1 c1) (.slice D1 m1 d1)), .int .i64 3]) ∧ Below w3.heap.size w3 W') from (content_nil x.block w3 (HT.out _ hA.n.bw).1).mono (by rintro e W' ⟨P, T, rfl, ⟨A1, c1, D1, d1, rfl, rfl, _⟩, hb⟩; exact ⟨_, _, _, _, _, _, rfl, hb⟩))
  have cb : w3.cell? ⟨w.heap.size, 1, none⟩ = some (.int .i64 x.block) := hA.n.bx.cell 1
  go_upto_region 7 with (first
    | (refine wpList_row_at rfl _ _ rfl g rfl _ _ _ _ hA.bl Tryz.underlying39 rfl lawInfo ?_)
    | (go_at_call 19; refine HC.out.mono ?_; rintro e w4 ⟨A1, n1, c1, D1, m1, d1, rfl, hb4⟩)
    | (refine wpList_store_new rfl _ _ _ rfl w4 (bloC zeroB (.slice A1 n1 c1) (.slice D1 m1 d1)) rfl rfl _ _ bloInfo rfl (bloC_ones _ _ _ _ _ _ _) ?_))
  refine name_world (fun w5 hw5 => ?_)
  have hA5 : NvL w x t b A c D d g w5 := by rw [hw5]; exact (hA.below hb4).below (below_new _ _)
  clear hA hw5 hb4 HC cb
  have hbl := block_nil b (.slice A b.proof.length c) (.slice D b.txs.length d) w5 hwf ⟨A, c, D, d, rfl, rfl, hA5.n.rp, hA5.n.rt⟩ (HT.out _ hA5.n.bw).1
  have HNM := Lib.hid (fun W (h : NvL w x t b A c D d g W) => number_nil b (.slice A b.proof.length c) (.slice D b.txs.length d) W hwf ⟨A, c, D, d, rfl, rfl, h.n.rp, h.n.rt⟩ (HT.out _ h.n.bw).1)
  have HCK := Lib.hid (fun W (h : NvL w x t b A c D d g W) => refchk_any b A c D d W hwf h.n.rp h.n.rt)
  obtain ⟨p, z, r, e1, e2, e3, hc⟩ := nil_cases x
  obtain ⟨m, hm⟩ : ∃ m, m = errI (mayV x) 110 := ⟨_, rfl⟩
  obtain ⟨h, hh⟩ : ∃ h, h = nilC x := ⟨_, rfl⟩
  obtain ⟨u, hu⟩ : ∃ u, u = tmoV t := ⟨_, rfl⟩
  obtain ⟨k, hk⟩ : ∃ k, k = nilT t := ⟨_, rfl⟩
  have hut : u = false ∨ (u = true ∧ (k == (3 : Int)) = true) := by
    rw [hu, hk]
    unfold nilT
    cases tmoV t
    · exact .inl rfl
    · exact .inr ⟨rfl, by decide⟩
  have HCT : Hid (∀ W, NvL w x t b A c D d g W → Calls Tryz.prog 11 #[.agg (lawA none none none), .agg (crtC x)] W (gives (.int .i64 h) W) ∧ Calls Tryz.prog 37 #[.agg (crtC x)] W (gives (.int .i64 m) W)) := Lib.hid (fun W hN => by
    rw [hh, hm]
    exact ⟨cert_nil x W HX.out.1 (HT.out _ hN.n.bw).1, L11.check_any x W HX.out.1⟩)
  have HTM : Hid (∀ W, NvL w x t b A c D d g W → Calls Tryz.prog 38 #[.agg (tmC t)] W (gives (.bool u) W) ∧ Calls Tryz.prog 13 #[.agg (lawA none none none), .agg (tmC t)] W (gives (.int .i64 k) W)) := Lib.hid (fun W hN => by
    rw [hu, hk]
    exact ⟨reftm_any t W HX.out.2, tim_nil t W HX.out.2⟩)
  rw [← hm] at e1
  rw [← hh] at e3
  have HF := Lib.hid (And.intro (And.intro e1 (And.intro e2 e3)) (And.intro hc hut))
  clear hm hh hu hk e1 e2 e3 hc hut
  obtain ⟨n, hn⟩ : ∃ n, n = nilW b := ⟨_, rfl⟩
  obtain ⟨q, hq⟩ : ∃ q, q = checkV b := ⟨_, rfl⟩
  have hnq : n = if q ≠ 0 then q else 3 := by rw [hn, hq]; rfl
  rw [← hn] at hbl HNM
  rw [← hq] at HCK
  have hq0 : q ≠ 0 := by rw [hq]; exact hz
  clear hn hq hwf hz
  go_upto_region 8 with (first
    | (refine wpList_row_at rfl _ _ rfl g rfl _ _ _ _ hA5.bl Tryz.underlying39 rfl lawInfo ?_)
    | (refine wpList_row_at rfl _ _ rfl (w.heap.size + 2) rfl _ _ _ _ hA5.n.bb Tryz.underlying57 rfl bloInfo ?_)
    | (go_at_call 27; refine hbl.mono ?_; unfold gives; rintro e w6 ⟨rfl, hb6⟩))
  have hA6 := hA5.below hb6
  have hnm := HNM.out w6 hA6
  clear hA5 hb6 hbl HNM
  go_upto_region 10 with (first
    | (refine wpList_row_at rfl _ _ rfl g rfl _ _ _ _ hA6.bl Tryz.underlying39 rfl lawInfo ?_)
    | (refine wpList_row_at rfl _ _ rfl (w.heap.size + 2) rfl _ _ _ _ hA6.n.bb Tryz.underlying57 rfl bloInfo ?_)
    | (go_at_call 25; refine hnm.mono ?_; unfold gives; rintro e w7 ⟨rfl, hb7⟩))
  have hA7 := hA6.below hb7
  have hck := HCK.out w7 hA7
  clear hA6 hb7 hnm
  have fin : (q != 0) = true ∧ n = q ∧ (q == q) = true := ⟨by simpa using hq0, by rw [hnq, if_pos hq0], by simp⟩
  clear hnq hq0
  obtain ⟨q1, rfl, q2⟩ := fin
  go_upto_region 11 with (first
    | (refine wpList_row_at rfl _ _ rfl (w.heap.size + 2) rfl _ _ _ _ hA7.n.bb Tryz.underlying57 rfl bloInfo ?_)
    | (go_at_call 36; refine hck.mono ?_; unfold gives; rintro e w8 ⟨rfl, hb8⟩))
  have hA78 := hA7.below hb8
  have hck2 := HCK.out _ hA78
  go_upto_region 12 with (first
    | (refine wpList_row_at rfl _ _ rfl (w.heap.size + 2) rfl _ _ _ _ hA78.n.bb Tryz.underlying57 rfl bloInfo ?_)
    | (go_at_call 36; refine hck2.mono ?_; unfold gives; rintro e w8' ⟨rfl, hb8'⟩))
  refine name_world (fun w9 hw9 => ?_)
  have hA8 : NvL w x t b A c D d g w9 := by rw [hw9]; exact hA78.below hb8'
  clear hw9 hA7 hck HCK hA78 hck2 hb8 hb8'
  have hct := (HCT.out _ hA8).1
  go_upto_region 13 with (first
    | (refine wpList_row_at rfl _ _ rfl g rfl _ _ _ _ hA8.bl Tryz.underlying39 rfl lawInfo ?_)
    | (refine wpList_row_at rfl _ _ rfl w.heap.size rfl _ _ _ _ hA8.n.bx Tryz.underlying29 rfl L11.crtInfo ?_)
    | (go_at_call 11; refine hct.mono ?_; unfold gives; rintro e w10 ⟨rfl, hb10⟩))
  have hA10 := hA8.below hb10
  have hch := (HCT.out _ hA10).2
  clear hA8 hb10 hct HCT
  obtain ⟨⟨e1, e2, e3⟩, hc, hut⟩ := HF.out
  have MK : Hid (∀ W, NvL w x t b A c D d g W → W.cell? ⟨w.heap.size, 0, none⟩ = some (.int .i64 x.kind)) := Lib.hid (fun W hN => hN.n.bx.cell 0)
  clear HF
  rcases hc with rfl | ⟨rfl, rfl⟩ | ⟨rfl, rfl, rfl⟩
  all_goals
    go_upto_region 15 with (first
      | (refine wpList_row_at rfl _ _ rfl w.heap.size rfl _ _ _ _ hA10.n.bx Tryz.underlying29 rfl L11.crtInfo ?_)
      | (go_at_call 37; refine hch.mono ?_; unfold gives; rintro e w11 ⟨rfl, hb11⟩; have hA11 := hA10.below hb11; have c0 := MK.out _ hA11))
    clear hch MK e1 e2 e3 c0
    rcases hut with rfl | ⟨rfl, k1⟩
    all_goals
      go_wp2_with (first
        | (refine wpList_row_at rfl _ _ rfl (w.heap.size + 1) rfl _ _ _ _ hA11.n.bt Tryz.underlying31 rfl tmInfo ?_)
        | (go_at_call 38; refine (HTM.out _ hA11).1.mono ?_; unfold gives; rintro e w12 ⟨rfl, hb12⟩; have hA12 := hA11.below hb12)
        | (refine wpList_row_at rfl _ _ rfl g rfl _ _ _ _ hA12.bl Tryz.underlying39 rfl lawInfo ?_)
        | (refine wpList_row_at rfl _ _ rfl (w.heap.size + 1) rfl _ _ _ _ hA12.n.bt Tryz.underlying31 rfl tmInfo ?_)
        | (go_at_call 13; refine (HTM.out _ hA12).2.mono ?_; unfold gives; rintro e w13 ⟨rfl, hb13⟩; have hA13 := hA12.below hb13))
      go_ret
      first
        | exact ⟨rfl, hA13.n.bw⟩
        | exact ⟨rfl, hA12.n.bw⟩
end Go.Proofs.YtomaaidhmccngaaGreatDoor
