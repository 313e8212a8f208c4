/-
  In whatever order blocks come the tree has the same: the statement's walk.
-/
import Derived.Test.YtgepokdilieodaaOrdW
import Derived.Deep.CutRange
import Derived.Deep.CutBlock
set_option linter.unusedSimpArgs false
set_option linter.unusedVariables false
set_option maxRecDepth 10000
namespace Go.Proofs.Ytgepokdilieodaa
open Go.RowKit Go.Maps Go.Lib
open L3 (Blk Reads)
open L6 (Turn moreB fresh From In)

theorem range_snoc (i : Nat) : (List.range (i + 1)).map (fun k : Nat => (k : Int)) = (List.range i).map (fun k : Nat => (k : Int)) ++ [(i : Int)] := by rw [List.range_succ]; simp
set_option maxHeartbeats 4000000 in
set_option maxRecDepth 100000 in
theorem order_walk (A0 : Option Addr) (c0 : Nat) (x0 : List UInt8) (A1 : Option Addr) (c1 : Nat) (x1 : List UInt8) (w : World) (h0 : Reads w w.heap.size 1 A0 x0.length (Lib.byteCells x0)) (h1 : Reads w w.heap.size 1 A1 x1.length (Lib.byteCells x1)) (m0 : x0.length ≤ 9223372036854775807) (m1 : x1.length ≤ 9223372036854775807) :
    Calls Try.prog 4 #[.slice A0 x0.length c0, .slice A1 x1.length c1] w fun e w' => e = .returned (.bool true) ∧ Below w.heap.size w w' := by
  have HA := Lib.hid (alive_any w)
  by_cases hbig : 40 < x0.length ∨ (x0.length ≤ 40 ∧ 40 < x1.length)
  · rcases hbig with hb | ⟨hb, hb'⟩
    all_goals
      go_enter Try.func4, Try.ntmps4
      go_wp2_with (first
        | (go_at_call 7; refine HA.out.mono ?_; unfold gives; rintro e w1 ⟨rfl, hb1⟩)
        | go_in)
      go_ret
      exact ⟨rfl, hb1⟩
  have hx0 : x0.length ≤ 40 := by omega
  have hx1 : x1.length ≤ 40 := by omega
  clear hbig
  obtain ⟨i0, hi, hz0, hz1, hz2⟩ := info_parts intInfo
  obtain ⟨j0, hj, hy0, hy1, hy2⟩ := info_parts blkInfo3
  have HN := Lib.hid (fun W => new_ok 64 W (by decide) (by decide))
  go_enter Try.func4, Try.ntmps4
  go_wp2_with (first
    | (go_at_call 7; refine HA.out.mono ?_; unfold gives; rintro e w1 ⟨rfl, hb1⟩)
    | (go_at_call 8; first
        | (have _t := HA; refine (HN.out _).mono ?_; unfold NewPost; rintro e w2 ⟨⟨ga, rfl, hTa⟩, hb2⟩; clear HA)
        | (refine (HN.out _).mono ?_; unfold NewPost; rintro e w3 ⟨⟨gb, rfl, hTb⟩, hb3⟩))
    | go_in)
  have hG : OrdG w w3.heap.size (fresh w1 w2) (fresh w2 w3) := ⟨fun k hk => ⟨Nat.le_trans hb1.size hk.1, Nat.lt_of_lt_of_le hk.2 hb3.size⟩, fun k hk => ⟨Nat.le_trans (Nat.le_trans hb1.size hb2.size) hk.1, hk.2⟩, fun k hk hq => by have := hk.2; have := hq.1; omega, Nat.le_trans (Nat.le_trans hb1.size hb2.size) hb3.size⟩
  have hstart : OrdA w w3.heap.size (fresh w1 w2) (fresh w2 w3) ga gb [] [] [] ⟨64, 0, 0, []⟩ (.slice none 0 0) (.slice none 0 0) w3 :=
    ⟨World.ownsRow_nil _ _ _ _, World.ownsRow_nil _ _ _ _, hTa.below hb3, hTb, nxt (nxt hb1 hb2) hb3, Nat.le_refl _⟩
  obtain ⟨B0, hB0⟩ : ∃ B0, B0 = w3.heap.size := ⟨_, rfl⟩
  obtain ⟨Sa, hSa⟩ : ∃ Sa, Sa = fresh w1 w2 := ⟨_, rfl⟩
  obtain ⟨Sb, hSb⟩ : ∃ Sb, Sb = fresh w2 w3 := ⟨_, rfl⟩
  rw [← hB0, ← hSa, ← hSb] at hG hstart
  clear hB0 hSa hSb hTa hTb hb1 hb2 hb3 HN
  go_loopw [9, 10, 11] (fun vl vo i wr => ∃ k : Nat, i = .int .i64 k ∧ k ≤ x0.length ∧ OrdA w B0 Sa Sb ga gb (growB (x0.take k)) (growB (x0.take k)) ((List.range k).map fun j : Nat => (j : Int)) ⟨64, 0, 0, []⟩ vl vo wr)
    (fun _ _ i _ => x0.length - (RowKit.intOf i).toNat)
  case atStart => exact ⟨0, rfl, Nat.zero_le _, hstart⟩
  case round =>
    clear hstart
    obtain ⟨k, rfl, hk, hR⟩ := hrel
    by_cases hlt : k < x0.length
    · obtain ⟨ad, u, rfl, hadl, hu, hcell⟩ := (h0.below hR.below).at_ hlt
      have hu2 : u = .int .u8 (x0[k].toNat : Int) := by
        unfold Lib.byteCells at hu
        rw [List.getElem?_map, List.getElem?_eq_getElem hlt] at hu
        exact (Option.some.inj hu).symm
      have hq255 : x0[k].toNat ≤ 255 := by have := x0[k].toNat_lt; omega
      have htake : x0.take (k + 1) = x0.take k ++ [x0[k]] := List.take_succ_eq_append_getElem hlt
      obtain ⟨cc, hcc⟩ : ∃ cc, cc = x0[k] := ⟨_, rfl⟩
      rw [← hcc] at hu2 hq255 htake
      subst hu2
      clear hu hcc
      obtain ⟨q, hq⟩ : ∃ q : Nat, q = cc.toNat := ⟨_, rfl⟩
      rw [← hq] at hcell hq255
      obtain ⟨Bs, hBs⟩ : ∃ Bs, Bs = growB (x0.take k) := ⟨_, rfl⟩
      have hBl : Bs.length = k := by rw [hBs, growB_len, List.length_take]; omega
      have hgood : GoodB Bs := by rw [hBs]; exact goodB_grow _ (by rw [List.length_take]; omega)
      have hnext : growB (x0.take (k + 1)) = Bs ++ [mkB Bs cc] := by rw [htake, growB_snoc, hBs]
      rw [← hBs] at hR
      have HNX := Lib.hid hnext
      clear htake hBs hnext
      have hmod : ∃ m : Nat, (m : Int) = (cc.toNat : Int) % ((k : Int) + 1) ∧ m ≤ k ∧ m = cc.toNat % (Bs.length + 1) := by
        refine ⟨cc.toNat % (k + 1), by rw [Int.natCast_emod]; rfl, ?_, by rw [hBl]⟩
        have := Nat.mod_lt cc.toNat (show 0 < k + 1 by omega)
        omega
      obtain ⟨m, hm, hmk, hmc⟩ := hmod
      have HMC := Lib.hid hmc
      obtain ⟨A, c, rfl, hrd⟩ := hR.l.slice hBl
      obtain ⟨Ao, co, rfl, hco, _⟩ := hR.o.slice (n := k) (by simp)
      go_upto_region 13 with fail
      rw [← hm]
      clear hm hmc hq hq255 hcell
      have HR := Lib.hid hR
      have HG := Lib.hid hG
      have HGD := Lib.hid hgood
      have HBL := Lib.hid hBl
      by_cases hm0 : m = 0
      · subst hm0
        obtain ⟨AL, hAL⟩ : ∃ AL, AL = A := ⟨_, rfl⟩
        subst hAL
        have hbb : (⟨1, 1, 0, 0⟩ : Bl) = mkB Bs cc := by
          unfold mkB
          rw [← HMC.out]
          rfl
        have HBB := Lib.hid hbb
        clear hbb hrd hR hG hgood hBl
        go_upto_region 16 with fail
        have hRl : wr.ownsRow B0 39 14 (.slice AL k c) k (Bs.flatMap blL) := by
          have := HR.out.l
          unfold OwnB at this
          rw [HBL.out] at this
          exact this
        go_upto_region 17 with (first
          | (refine wpList_build rfl _ _ rfl #[(1, .int .i64 0), (3, .int .i64 0)] rfl (build_cr2 0 0 _) ?_)
          | (refine wpList_build rfl _ _ rfl #[(0, .int .i64 1), (1, .int .i64 1), (4, .agg (crC ⟨0, 0, 0, 0⟩))] rfl (build_bl3 1 1 0 0 _) ?_)
          | (refine wpList_buildSlice rfl _ _ _ rfl #[(0, .agg (blC ⟨1, 1, 0, 0⟩))] rfl (slice_bl ⟨1, 1, 0, 0⟩ _) ?_)
          | (at_builtin; refine L3.wpList_append_any _ rfl (.tmp 68) (.tmp 75) 49 rfl B0 39 j0 _ 14 136 Try.underlying49 hj hy0 hy1 hy2 rfl (by decide) (.slice AL k c) k (Bs.flatMap blL) rfl (hRl.alloc _) (wr.heap.size + 1) (some ⟨wr.heap.size, 0, none⟩) 1 1 (blL ⟨1, 1, 0, 0⟩) rfl (reads_one (k := 14) rfl (show Blk _ _ _ (blL ⟨1, 1, 0, 0⟩).toArray from box_new wr 39 ⟨1, 1, 0, 0⟩)) (one_blL _) (by unfold maxLen; omega) (by omega) (by have := HR.out.size; simp; omega) ?_; intro v3 w3 hr3 hg3 _)
          | go_in)
        rw [HBB.out] at hr3
        have hown3 : OwnB w3 B0 v3 (Bs ++ [mkB Bs cc]) := by
          have e : (Bs ++ [mkB Bs cc]).length = k + 1 := by simp [HBL.out]
          unfold OwnB
          rw [e, flat_snoc]
          exact hr3
        have hO3 := HR.out.appL HG.out hg3 hown3
        obtain ⟨A3, c3, rfl, _⟩ := hown3.slice (n := k + 1) (by simp [HBL.out])
        have hO3o : w3.ownsRow B0 3 1 (.slice Ao k co) k (((List.range k).map fun j : Nat => (j : Int)).map (Value.int .i64)) := by
          have := hO3.o
          unfold OwnI at this
          rw [List.length_map, List.length_range] at this
          exact this
        clear hr3 hg3 hown3 hRl
        go_upto_region 18 with (first
          | (at_builtin; refine wpList_append_own _ rfl _ _ 50 rfl B0 3 i0 (.int .i64 0) 1 8 Try.underlying50 hi hz0 hz1 hz2 rfl (by decide) _ _ _ rfl (hO3o.alloc _) ⟨w3.heap.size, 0, none⟩ 1 1 [.int .i64 k] rfl rfl (cell_one_new _ _ _) (ints_oneCell .i64 [(k : Int)]) (by unfold maxLen; omega) (by omega) (by have := hO3.size; simp; omega) ?_; intro v4 w4 hr4 hg4 _)
          | go_in)
        have hown4 : OwnI w4 B0 v4 ((List.range (k + 1)).map fun j : Nat => (j : Int)) := by
          unfold OwnI
          rw [List.length_map, List.length_range, range_snoc, List.map_append]
          exact hr4
        have hO4 := hO3.appO HG.out hg4 hown4
        clear hr4 hg4 hown4 hO3o hO3
        obtain ⟨A4, c4, he4, hrd4⟩ := hO4.l.slice (n := k + 1) (by simp [HBL.out])
        injection he4 with he4 _ hc4
        subst he4
        subst hc4
        obtain ⟨ad3, rfl, had3, _, _, rall⟩ := hrd4.block (j := k) (by simp [HBL.out])
        have hlast : (Bs ++ [mkB Bs cc])[k]'(by simp [HBL.out]) = mkB Bs cc := by
          have := HBL.out
          subst this
          simp
        rw [hlast] at rall
        obtain ⟨p1, p2⟩ := treeT_put HGD.out (by rw [HBL.out]; omega) cc
        rw [HBL.out] at p1 p2
        have HP := Lib.hid (show Calls Try.prog 11 #[.pointer (some ⟨ga, 0, none⟩), .int .i64 ((k : Int) + 1), .agg (blL (mkB Bs cc)).toArray] w4 fun e w' => e = .returned (.int .i64 0) ∧ Tr w' Sa ga (treeT (Bs ++ [mkB Bs cc])) ∧ Turn Sa w4 w' from by
          refine (put_any hO4.a (treeT_wf HGD.out (by rw [HBL.out]; omega)) (by show (entsT Bs).length ≤ 100000; rw [entsT_len, HBL.out]; omega) (hO4.inA HG.out) ((k : Int) + 1) (mkB Bs cc) (inI_of (by omega) (by omega)) ((goodB_snoc HGD.out (by rw [HBL.out]; omega) cc).wf k (by simp [HBL.out]) |> fun h => by rw [hlast] at h; exact h)).mono ?_
          rintro e w' ⟨he, h1, h2⟩
          rw [p1] at he
          rw [p2] at h1
          exact ⟨he, h1, h2⟩)
        have HO4 := Lib.hid hO4
        clear hO4 p1 p2 hlast hrd4
        go_wp2_with (first
          | (refine wpList_cells_at rfl _ _ rfl (ad3.add (k * 14)) rfl (blL (mkB Bs cc)) _ rall Try.underlying39 rfl blInfo ?_)
          | (go_at_call 11; refine HP.out.mono ?_; rintro e w5 ⟨rfl, hT5, ht5⟩)
          | go_in)
        have HREL := Lib.hid (show OrdA w B0 Sa Sb ga gb (growB (x0.take (k + 1))) (growB (x0.take (k + 1))) ((List.range (k + 1)).map fun j : Nat => (j : Int)) ⟨64, 0, 0, []⟩ (.slice (some ad3) (k + 1) c3) v4 w5 from by
          rw [HNX.out]
          exact HO4.out.turnA HG.out ht5 hT5)
        clear hT5 ht5 rall
        go_roundw
        case rel => exact ⟨k + 1, by go_num, by omega, HREL.out⟩
        case measure => simp [RowKit.intOf]; omega
      · obtain ⟨pm, rfl⟩ : ∃ pm, m = pm + 1 := ⟨m - 1, by omega⟩
        obtain ⟨ad2, hA2, had2, r1, r5, rall⟩ := hrd.block (j := pm) (by omega)
        obtain ⟨AL, hAL⟩ : ∃ AL, AL = A := ⟨_, rfl⟩
        subst hAL
        obtain ⟨R, hRd⟩ : ∃ R, R = (Bs[pm]'(by omega)).rd := ⟨_, rfl⟩
        have hRb := hgood.rd pm (by omega)
        rw [← hRd] at r1 hRb
        have hbb : (⟨1, R + 1, ((pm + 1 : Nat) : Int), R⟩ : Bl) = mkB Bs cc := by
          unfold mkB
          rw [← HMC.out, if_neg (by omega), show pm + 1 - 1 = pm by omega, List.getD_eq_getElem?_getD, List.getElem?_eq_getElem (show pm < Bs.length by omega), hRd]
          rfl
        have HBB := Lib.hid hbb
        clear hRd hbb rall r5 hrd hR hG hgood hBl hm0
        subst hA2
        go_upto_region 16 with fail
        have hRl : wr.ownsRow B0 39 14 (.slice (some ad2) k c) k (Bs.flatMap blL) := by
          have := HR.out.l
          unfold OwnB at this
          rw [HBL.out] at this
          exact this
        go_upto_region 17 with (first
          | (refine wpList_build rfl _ _ rfl #[(1, .int .i64 ((pm + 1 : Nat) : Int)), (3, .int .i64 R)] rfl (build_cr2 ((pm + 1 : Nat) : Int) R _) ?_)
          | (refine wpList_build rfl _ _ rfl #[(0, .int .i64 1), (1, .int .i64 (R + 1)), (4, .agg (crC ⟨0, 0, ((pm + 1 : Nat) : Int), R⟩))] rfl (build_bl3 1 (R + 1) ((pm + 1 : Nat) : Int) R _) ?_)
          | (refine wpList_buildSlice rfl _ _ _ rfl #[(0, .agg (blC ⟨1, (R + 1), ((pm + 1 : Nat) : Int), R⟩))] rfl (slice_bl ⟨1, (R + 1), ((pm + 1 : Nat) : Int), R⟩ _) ?_)
          | (at_builtin; refine L3.wpList_append_any _ rfl (.tmp 68) (.tmp 75) 49 rfl B0 39 j0 _ 14 136 Try.underlying49 hj hy0 hy1 hy2 rfl (by decide) (.slice (some ad2) k c) k (Bs.flatMap blL) rfl (hRl.alloc _) (wr.heap.size + 1) (some ⟨wr.heap.size, 0, none⟩) 1 1 (blL ⟨1, (R + 1), ((pm + 1 : Nat) : Int), R⟩) rfl (reads_one (k := 14) rfl (show Blk _ _ _ (blL ⟨1, (R + 1), ((pm + 1 : Nat) : Int), R⟩).toArray from box_new wr 39 ⟨1, (R + 1), ((pm + 1 : Nat) : Int), R⟩)) (one_blL _) (by unfold maxLen; omega) (by omega) (by have := HR.out.size; simp; omega) ?_; intro v3 w3 hr3 hg3 _)
          | go_in)
        rw [HBB.out] at hr3
        have hown3 : OwnB w3 B0 v3 (Bs ++ [mkB Bs cc]) := by
          have e : (Bs ++ [mkB Bs cc]).length = k + 1 := by simp [HBL.out]
          unfold OwnB
          rw [e, flat_snoc]
          exact hr3
        have hO3 := HR.out.appL HG.out hg3 hown3
        obtain ⟨A3, c3, rfl, _⟩ := hown3.slice (n := k + 1) (by simp [HBL.out])
        have hO3o : w3.ownsRow B0 3 1 (.slice Ao k co) k (((List.range k).map fun j : Nat => (j : Int)).map (Value.int .i64)) := by
          have := hO3.o
          unfold OwnI at this
          rw [List.length_map, List.length_range] at this
          exact this
        clear hr3 hg3 hown3 hRl
        go_upto_region 18 with (first
          | (at_builtin; refine wpList_append_own _ rfl _ _ 50 rfl B0 3 i0 (.int .i64 0) 1 8 Try.underlying50 hi hz0 hz1 hz2 rfl (by decide) _ _ _ rfl (hO3o.alloc _) ⟨w3.heap.size, 0, none⟩ 1 1 [.int .i64 k] rfl rfl (cell_one_new _ _ _) (ints_oneCell .i64 [(k : Int)]) (by unfold maxLen; omega) (by omega) (by have := hO3.size; simp; omega) ?_; intro v4 w4 hr4 hg4 _)
          | go_in)
        have hown4 : OwnI w4 B0 v4 ((List.range (k + 1)).map fun j : Nat => (j : Int)) := by
          unfold OwnI
          rw [List.length_map, List.length_range, range_snoc, List.map_append]
          exact hr4
        have hO4 := hO3.appO HG.out hg4 hown4
        clear hr4 hg4 hown4 hO3o hO3
        obtain ⟨A4, c4, he4, hrd4⟩ := hO4.l.slice (n := k + 1) (by simp [HBL.out])
        injection he4 with he4 _ hc4
        subst he4
        subst hc4
        obtain ⟨ad3, rfl, had3, _, _, rall⟩ := hrd4.block (j := k) (by simp [HBL.out])
        have hlast : (Bs ++ [mkB Bs cc])[k]'(by simp [HBL.out]) = mkB Bs cc := by
          have := HBL.out
          subst this
          simp
        rw [hlast] at rall
        obtain ⟨p1, p2⟩ := treeT_put HGD.out (by rw [HBL.out]; omega) cc
        rw [HBL.out] at p1 p2
        have HP := Lib.hid (show Calls Try.prog 11 #[.pointer (some ⟨ga, 0, none⟩), .int .i64 ((k : Int) + 1), .agg (blL (mkB Bs cc)).toArray] w4 fun e w' => e = .returned (.int .i64 0) ∧ Tr w' Sa ga (treeT (Bs ++ [mkB Bs cc])) ∧ Turn Sa w4 w' from by
          refine (put_any hO4.a (treeT_wf HGD.out (by rw [HBL.out]; omega)) (by show (entsT Bs).length ≤ 100000; rw [entsT_len, HBL.out]; omega) (hO4.inA HG.out) ((k : Int) + 1) (mkB Bs cc) (inI_of (by omega) (by omega)) ((goodB_snoc HGD.out (by rw [HBL.out]; omega) cc).wf k (by simp [HBL.out]) |> fun h => by rw [hlast] at h; exact h)).mono ?_
          rintro e w' ⟨he, h1, h2⟩
          rw [p1] at he
          rw [p2] at h1
          exact ⟨he, h1, h2⟩)
        have HO4 := Lib.hid hO4
        clear hO4 p1 p2 hlast hrd4
        go_wp2_with (first
          | (refine wpList_cells_at rfl _ _ rfl (ad3.add (k * 14)) rfl (blL (mkB Bs cc)) _ rall Try.underlying39 rfl blInfo ?_)
          | (go_at_call 11; refine HP.out.mono ?_; rintro e w5 ⟨rfl, hT5, ht5⟩)
          | go_in)
        have HREL := Lib.hid (show OrdA w B0 Sa Sb ga gb (growB (x0.take (k + 1))) (growB (x0.take (k + 1))) ((List.range (k + 1)).map fun j : Nat => (j : Int)) ⟨64, 0, 0, []⟩ (.slice (some ad3) (k + 1) c3) v4 w5 from by
          rw [HNX.out]
          exact HO4.out.turnA HG.out ht5 hT5)
        clear hT5 ht5 rall
        go_roundw
        case rel => exact ⟨k + 1, by go_num, by omega, HREL.out⟩
        case measure => simp [RowKit.intOf]; omega
    · skip -- L1END
      have hkn : k = x0.length := by omega
      rw [hkn, List.take_of_length_le (Nat.le_refl _)] at hR
      obtain ⟨Bs, hBs⟩ : ∃ Bs, Bs = growB x0 := ⟨_, rfl⟩
      rw [← hBs] at hR
      have hBl : Bs.length = x0.length := by rw [hBs, growB_len]
      have HGD : Hid (GoodB Bs) := Lib.hid (by rw [hBs]; exact goodB_grow _ (by omega))
      obtain ⟨n, hn⟩ : ∃ n, n = x0.length := ⟨_, rfl⟩
      rw [← hn] at hR hBl hx0
      obtain ⟨AL, cl, rfl, _⟩ := hR.l.slice hBl
      obtain ⟨Ao, co, rfl, hco, _⟩ := hR.o.slice (n := n) (by simp)
      have HG := Lib.hid hG
      have HBL := Lib.hid hBl
      have HR := Lib.hid hR
      clear hkn hBs hR hG hBl hk hn
      have hkx : ¬ k < x0.length := hlt
      go_upto_block 2 with fail
      have hs2 : ∃ zs : List Int, OrdA w B0 Sa Sb ga gb Bs Bs zs ⟨64, 0, 0, []⟩ (.slice AL n cl) (.slice Ao n co) wr ∧ PermN n zs := ⟨_, HR.out, permN_range n⟩
      clear hkx hlt
      obtain ⟨wo, hwo⟩ : ∃ wo, wo = wr := ⟨_, rfl⟩
      rw [← hwo] at hs2 ⊢
      clear hwo HR
      go_cut [14, 15, 16] from 90 to 126 (fun _ _ _ wx => ∃ zs : List Int, OrdA w B0 Sa Sb ga gb Bs Bs zs ⟨64, 0, 0, []⟩ (.slice AL n cl) (.slice Ao n co) wx ∧ PermN n zs)
      case first =>
        go_wp2
        go_loopw [14] (fun i wr => ∃ j : Nat, i = .int .i64 j ∧ j ≤ x1.length ∧ ∃ zs : List Int, OrdA w B0 Sa Sb ga gb Bs Bs zs ⟨64, 0, 0, []⟩ (.slice AL n cl) (.slice Ao n co) wr ∧ PermN n zs)
          (fun i _ => x1.length - (RowKit.intOf i).toNat)
        case atStart => exact ⟨0, rfl, Nat.zero_le _, hs2⟩
        case round =>
          clear hs2
          obtain ⟨j, rfl, hjl, zs, hR, hp⟩ := hrel
          by_cases hlt : j < x1.length ∧ 1 < n
          · obtain ⟨hlt, hn1⟩ := hlt
            obtain ⟨ad1, u, rfl, had1, hu, hcell⟩ := (h1.below hR.below).at_ hlt
            have hu2 : u = .int .u8 (x1[j].toNat : Int) := by
              unfold Lib.byteCells at hu
              rw [List.getElem?_map, List.getElem?_eq_getElem hlt] at hu
              exact (Option.some.inj hu).symm
            have hq255 : x1[j].toNat ≤ 255 := by have := x1[j].toNat_lt; omega
            obtain ⟨q, hq⟩ : ∃ q : Nat, q = x1[j].toNat := ⟨_, rfl⟩
            rw [← hq] at hu2 hq255
            subst hu2
            clear hu hq
            go_upto_region 23 with fail
            go_quiet (fail)
            obtain ⟨x, hx, hxn⟩ : ∃ x : Nat, (x : Int) = (j : Int) % (n : Int) ∧ x < n := ⟨j % n, by rw [Int.natCast_emod], Nat.mod_lt _ (by omega)⟩
            obtain ⟨y, hy, hyn⟩ : ∃ y : Nat, (y : Int) = (q : Int) % (n : Int) ∧ y < n := ⟨q % n, by rw [Int.natCast_emod], Nat.mod_lt _ (by omega)⟩
            rw [← hx, ← hy]
            clear hx hy hcell
            have hR5 := hR.drew nq
            obtain ⟨w5, hw5⟩ : ∃ w5, w5 = wr.drewN nq := ⟨_, rfl⟩
            rw [← hw5] at hR5 ⊢
            clear hw5 hR
            obtain ⟨g, cur, hgA, hbk, hbase, hcsz, hco2, htk⟩ := row_open hR5.o hp.len (by omega)
            subst hgA
            have hxl : x < zs.length := by rw [hp.len]; exact hxn
            have hyl : y < zs.length := by rw [hp.len]; exact hyn
            have e1 : w5.cell? ⟨g, x, none⟩ = some (.int .i64 zs[x]) := row_cell hbk htk hxl
            have e2 : w5.cell? ⟨g, y, none⟩ = some (.int .i64 zs[y]) := row_cell hbk htk hyl
            have f1 := hbk.frozen x
            have f2 := hbk.frozen y
            obtain ⟨zx, hzx⟩ : ∃ zx, zx = zs[x] := ⟨_, rfl⟩
            obtain ⟨zy, hzy⟩ : ∃ zy, zy = zs[y] := ⟨_, rfl⟩
            rw [← hzx] at e1
            rw [← hzy] at e2
            go_upto_region 24 with fail
            have hcm : co ≤ maxLen := by
              rcases hR5.o.2 with ⟨he, hz⟩ | ⟨_, cap, _, he, _, _, _, h2, _⟩
              · cases he
              · injection he with _ _ hc; rw [hc]; exact h2
            have HP := Lib.hid (hp.swap hxl hyl)
            rw [← hzx, ← hzy] at HP
            have HR5 := Lib.hid hR5
            have HSW := Lib.hid (fun W' (hW : Blk W' g 3 ((cur.setIfInBounds x (.int .i64 zy)).setIfInBounds y (.int .i64 zx))) => row_swap hbk hbase hcsz hco2 hp.len hcm htk x y zy zx hW)
            have hb6 : Blk ((w5.setCell ⟨g, x, none⟩ (.int .i64 zy)).setCell ⟨g, y, none⟩ (.int .i64 zx)).drew g 3 ((cur.setIfInBounds x (.int .i64 zy)).setIfInBounds y (.int .i64 zx)) := ((hbk.set_ x (.int .i64 zy)).set_ y (.int .i64 zx)).drew
            have HB6 := Lib.hid hb6
            have s1 : (w5.setCell ⟨g, x, none⟩ (.int .i64 zy)).cell? ⟨g, x, none⟩ = some (.int .i64 zy) := by
              rw [(hbk.set_ x (.int .i64 zy)).cell x]
              have hxc : x < cur.size := by omega
              simp [hxc]
            clear hzx hzy hp hR5 htk hb6 hxl hyl hcm hbk
            by_cases hxy : x = y
            · subst hxy
              obtain rfl : zx = zy := by rw [e1] at e2; injection e2 with e2; injection e2
              go_region
              obtain ⟨w6, hw6⟩ : ∃ w6, w6 = ((w5.setCell ⟨g, x, none⟩ (.int .i64 zx)).setCell ⟨g, x, none⟩ (.int .i64 zx)).drew := ⟨_, rfl⟩
              have HREL := Lib.hid (show OrdA w B0 Sa Sb ga gb Bs Bs ((zs.set x zx).set x zx) ⟨64, 0, 0, []⟩ (.slice AL n cl) (.slice (some ⟨g, 0, none⟩) n co) w6 from by
                rw [hw6]
                exact HR5.out.turnO HG.out rfl (grown_set2 _ _ _ _ _ _) (HSW.out _ HB6.out))
              rw [← hw6]
              clear hw6
              go_wp2
              go_roundw
              case rel => exact ⟨j + 1, by go_num, by omega, _, HREL.out, HP.out⟩
              case measure => simp [RowKit.intOf]; omega
            · have hxy2 : ¬ y = x := fun e => hxy e.symm
              go_region
              obtain ⟨w6, hw6⟩ : ∃ w6, w6 = ((w5.setCell ⟨g, x, none⟩ (.int .i64 zy)).setCell ⟨g, y, none⟩ (.int .i64 zx)).drew := ⟨_, rfl⟩
              have HREL := Lib.hid (show OrdA w B0 Sa Sb ga gb Bs Bs ((zs.set x zy).set y zx) ⟨64, 0, 0, []⟩ (.slice AL n cl) (.slice (some ⟨g, 0, none⟩) n co) w6 from by
                rw [hw6]
                exact HR5.out.turnO HG.out rfl (grown_set2 _ _ _ _ _ _) (HSW.out _ HB6.out))
              rw [← hw6]
              clear hw6
              go_wp2
              go_roundw
              case rel => exact ⟨j + 1, by go_num, by omega, _, HREL.out, HP.out⟩
              case measure => simp [RowKit.intOf]; omega
          · have HREL := Lib.hid (show ∃ zs : List Int, OrdA w B0 Sa Sb ga gb Bs Bs zs ⟨64, 0, 0, []⟩ (.slice AL n cl) (.slice Ao n co) wr ∧ PermN n zs from ⟨zs, hR, hp⟩)
            clear hR hp
            by_cases hj2 : j < x1.length
            · have hn1 : ¬ 1 < n := fun h => hlt ⟨hj2, h⟩
              go_wp2
              go_meet
              case rel => exact HREL.out
            · go_wp2
              go_meet
              case rel => exact HREL.out
      case rest =>
        clear hs2
        obtain ⟨zs, hR, hp⟩ := hcut
        have hnd : ∀ j (h : j < zs.length), ∃ s : Nat, zs[j] = (s : Int) ∧ s < n := fun j h => hp.mem _ (List.getElem_mem h)
        have HP := Lib.hid hp
        have hzl := hp.len
        have HPO := Lib.hid (fun (x : PermN n zs) => x)
        obtain ⟨wo, hwo⟩ : ∃ wo, wo = wc := ⟨_, rfl⟩
        rw [← hwo] at hR ⊢
        clear hwo
        go_upto_block 4 with fail
        go_cut [17, 18] from 127 to 152 (fun _ _ wx => ∃ sb : TS, OrdA w B0 Sa Sb ga gb Bs Bs zs sb (.slice AL n cl) (.slice Ao n co) wx ∧ CameB Bs (zs.map Int.toNat) sb)
        case first =>
          go_wp2
          have hs3 : ∃ sb : TS, OrdA w B0 Sa Sb ga gb Bs Bs zs sb (.slice AL n cl) (.slice Ao n co) wo ∧ CameB Bs ((zs.map Int.toNat).take 0) sb := ⟨_, hR, by rw [List.take_zero]; exact came_nil Bs⟩
          go_loopw [17] (fun i wr => ∃ j : Nat, i = .int .i64 j ∧ j ≤ n ∧ ∃ sb : TS, OrdA w B0 Sa Sb ga gb Bs Bs zs sb (.slice AL n cl) (.slice Ao n co) wr ∧ CameB Bs ((zs.map Int.toNat).take j) sb)
            (fun i _ => n - (RowKit.intOf i).toNat)
          case atStart => exact ⟨0, rfl, Nat.zero_le _, hs3⟩
          case round =>
            clear hs3 hR
            obtain ⟨j, rfl, hjn, sb, hR, hC⟩ := hrel
            by_cases hlt : j < n
            · obtain ⟨s, hzs, hsn⟩ := hnd j (by omega)
              have hsB : s < Bs.length := by rw [HBL.out]; exact hsn
              have htk : (zs.map Int.toNat).take (j + 1) = (zs.map Int.toNat).take j ++ [s] := by
                rw [List.take_succ_eq_append_getElem (by rw [List.length_map]; omega), List.getElem_map, hzs]
                rfl
              have hns : s ∉ (zs.map Int.toNat).take j := fun hm => by
                have hnd2 : ((zs.map Int.toNat).take (j + 1)).Nodup := List.Nodup.sublist (List.take_sublist _ _) (HP.out.toNat_nodup)
                rw [htk, List.nodup_append] at hnd2
                exact hnd2.2.2 s hm s (by simp) rfl
              obtain ⟨hpe, hC2⟩ := came_put HGD.out hC (by rw [List.length_take, List.length_map]; omega) (by rw [HBL.out]; omega) hsB hns
              rw [← htk] at hC2
              obtain ⟨ado, rfl⟩ := ownI_ad hR.o (by omega)
              obtain ⟨adl, rfl⟩ := ownB_ad hR.l (by omega)
              have hRd := hR.drew1
              obtain ⟨b, hb⟩ : ∃ b, b = Bs[s] := ⟨_, rfl⟩
              rw [← hb] at hpe hC2
              obtain ⟨pe, hpeq⟩ : ∃ pe, pe = putE sb ((s : Int) + 1) b := ⟨_, rfl⟩
              have HPUT := Lib.hid (show Calls Try.prog 11 #[.pointer (some ⟨gb, 0, none⟩), .int .i64 ((s : Int) + 1), .agg (blL b).toArray] wr.drew (fun e w' => e = .returned (.int .i64 pe) ∧ Tr w' Sb gb (putS sb ((s : Int) + 1) b) ∧ Turn Sb wr.drew w') from by
                rw [hpeq]
                exact put_any hRd.b hC.wf (by rw [hC.len, List.length_take, List.length_map]; omega) (hRd.inB HG.out) ((s : Int) + 1) b (inI_of (by omega) (by omega)) (by rw [hb]; exact HGD.out.wf s hsB))
              rw [← hpeq] at hpe
              have HPE := Lib.hid hpeq
              have HC2 := Lib.hid hC2
              have HBV := Lib.hid hb
              have HZS := Lib.hid hzs
              have HRd := Lib.hid hRd
              have hS : RowsAt B0 (.slice (some adl) n cl) (.slice (some ado) n co) Bs zs wr.drew := ⟨hRd.l, hRd.o⟩
              have hw1 : IntKind.i64.wrap ((s : Int) + 1) = (s : Int) + 1 := IntWalk.i64_in _ (by omega)
              clear hpeq hC2 hC htk hns hzs hRd hR hb hnd
              go_upto_region 28 with fail
              refine wp_region_K (RowsAt B0 (.slice (some adl) n cl) (.slice (some ado) n co) Bs zs) [0, 1, 2, 3, 4, 5, 6, 7, 8, 9, 10, 11, 12] (by kernel_rfl) ?_
              refine wpK_quiet (f := 2) (by kernel_rfl) (fun _ x _ _ _ h => by cases x <;> exact h) hS [0, 1, 2, 3, 4, 5, 6, 7, 8, 9, 10, 11, 12] _ _ (by kernel_rfl) (by kernel_rfl) (by kernel_rfl) ?_
              have ne : Nonempty (WorldIn (RowsAt B0 (.slice (some adl) n cl) (.slice (some ado) n co) Bs zs)) := ⟨⟨_, hS⟩⟩
              have r0 : ∀ z : WorldIn (RowsAt B0 (.slice (some adl) n cl) (.slice (some ado) n co) Bs zs), z.w.cell? (ado.add j) = some (.int .i64 (s : Int)) := fun z => by rw [ownI_cell z.h.2 (show j < zs.length by omega), HZS.out]
              have R1 := Lib.hid (show ∀ z : WorldIn (RowsAt B0 (.slice (some adl) n cl) (.slice (some ado) n co) Bs zs), ∀ i u, (blL b)[i]? = some u → z.w.cell? ((adl.add (s * 14)).add i) = some u from fun z => by rw [HBV.out]; exact ownB_cells z.h.1 hsB)
              conv => arg 5; simp [pick]
              iterate 12 go_big_quiet_step (fail)
              refine wpQuiet_cells rfl _ _ rfl (adl.add (s * 14)) rfl (blL b) _ R1.out Try.underlying39 rfl blInfo ?_
              conv => arg 6; simp only [Act.put, List.setIfInBounds_toArray, List.set_cons_zero, List.set_cons_succ]
              refine wpQuiet_nil ?_
              refine wpK_step 13 (by kernel_rfl) rfl ?_
              go_wp2_with (go_at_call 11; refine HPUT.out.mono ?_; rintro e w6 ⟨rfl, hT6, ht6⟩)
              have hO6 := HRd.out.turnB HG.out ht6 hT6
              refine stepQ.mk ⟨fun _ => ⟨hO6.l, hO6.o⟩, ?_⟩
              refine wpK_seq [14] _ _ _ (by kernel_rfl) ?_
              conv => arg 4; simp [pick]
              have HREL := Lib.hid (show ∃ sb' : TS, OrdA w B0 Sa Sb ga gb Bs Bs zs sb' (.slice (some adl) n cl) (.slice (some ado) n co) w6 ∧ CameB Bs ((zs.map Int.toNat).take (j + 1)) sb' from ⟨_, hO6, HC2.out⟩)
              clear hO6 hT6 ht6 hS ne r0 R1 HRd HPUT
              rcases hpe with hpe | hpe
              all_goals
                subst hpe
                go_wp2
                go_roundw
                case rel => exact ⟨j + 1, by go_num, by omega, HREL.out⟩
                case measure => simp [RowKit.intOf]; omega
            · have hjn2 : j = n := by omega
              have HREL := Lib.hid (show ∃ sb : TS, OrdA w B0 Sa Sb ga gb Bs Bs zs sb (.slice AL n cl) (.slice Ao n co) wr ∧ CameB Bs (zs.map Int.toNat) sb from ⟨sb, hR, by rw [hjn2, List.take_of_length_le (by rw [List.length_map]; omega)] at hC; exact hC⟩)
              clear hR hC hjn2
              go_wp2
              go_meet
              case rel => exact HREL.out
        case rest =>
          clear hR
          obtain ⟨sb, hR, hC⟩ := hcut
          have hdn : DoneB Bs sb := hC.done HGD.out (by rw [HBL.out]; exact HP.out)
          have hdl : sb.L.length ≤ 100000 := by rw [hC.len, List.length_map]; omega
          have HL := Lib.hid (len_done hR.b hdn HBL.out)
          have HM := Lib.hid (fun W (hb : Below wc.heap.size wc W) => missing_done (hR.b.below hb) hdn hdl)
          have hnq : ((n : Int) != n) = false := by simp
          have HDN := Lib.hid hdn
          have HR := Lib.hid hR
          clear hC hdn hR hnd
          go_wp2_with (first
            | (go_at_call 15; refine HL.out.mono ?_; unfold gives; rintro e w2 ⟨rfl, hb2⟩)
            | (go_at_call 16; refine (HM.out _ hb2).mono ?_; rintro e w3 ⟨Am, cm, rfl, hb3⟩)
            | go_in)
          have hs4 := HR.out.keep (nxt hb2 hb3)
          clear HL HM hb2 hb3 HR
          go_loopw [21] (fun i wr => ∃ m : Nat, i = .int .i64 m ∧ 1 ≤ m ∧ m ≤ n + 1 ∧ OrdA w B0 Sa Sb ga gb Bs Bs zs sb (.slice AL n cl) (.slice Ao n co) wr) (fun i _ => n + 1 - (RowKit.intOf i).toNat)
          case atStart => exact ⟨1, rfl, Nat.le_refl _, by omega, hs4⟩
          case round =>
            clear hs4
            obtain ⟨m, rfl, hm1, hmn, hR⟩ := hrel
            by_cases hlt : m ≤ n
            · obtain ⟨mm, rfl⟩ : ∃ mm, m = mm + 1 := ⟨m - 1, by omega⟩
              have hmB : mm < Bs.length := by rw [HBL.out]; omega
              obtain ⟨p, hpp, hplen, lm, hlm, hpl, hplast⟩ := pathB HGD.out hmB
              have ecast : ((mm + 1 : Nat) : Int) = (mm : Int) + 1 := by omega
              obtain ⟨adl, rfl⟩ := ownB_ad hR.l (by omega)
              have HPa := Lib.hid (show ∀ W, Below wr.heap.size wr W → Calls Try.prog 17 #[.pointer (some ⟨ga, 0, none⟩), .int .i64 ((mm : Int) + 1)] W fun e w' => ∃ v, e = .returned (.tuple #[v, .int .i64 0]) ∧ OwnI w' W.heap.size v p ∧ Below W.heap.size W w' from fun W hb => by
                exact path_done (hR.a.below hb) (treeT_done HGD.out (by rw [HBL.out]; omega)) (by show (entsT Bs).length ≤ 100000; rw [entsT_len, HBL.out]; omega) hmB (by rw [HBL.out]; omega) hpp)
              have HPb := Lib.hid (show ∀ W, Below wr.heap.size wr W → Calls Try.prog 17 #[.pointer (some ⟨gb, 0, none⟩), .int .i64 ((mm : Int) + 1)] W fun e w' => ∃ v, e = .returned (.tuple #[v, .int .i64 0]) ∧ OwnI w' W.heap.size v p ∧ Below W.heap.size W w' from fun W hb => by
                exact path_done (hR.b.below hb) HDN.out hdl hmB (by rw [HBL.out]; omega) hpp)
              have HR := Lib.hid hR
              have HCH := Lib.hid (path_chain (entsT_sub Bs) HGD.out hpp)
              have HLE := Lib.hid hplen
              have HLA := Lib.hid hplast
              have HPL := Lib.hid hpl
              clear hR hpp hplen hplast hpl ecast
              go_upto_region 39 with (first
                | (go_at_call 17; (with_reducible refine (HPa.out _ (Below.refl _ _)).mono ?_); rintro e w2 ⟨va, rfl, ho2, hb2⟩)
                | (go_at_call 17; (with_reducible refine (HPb.out _ hb2).mono ?_); rintro e w3 ⟨vb, rfl, ho3, hb3⟩)
                | go_in)
              have hR3 := HR.out.keep (nxt hb2 hb3)
              have ho2' : OwnI w3 wr.heap.size va p := L6.Turn.row (S := fun _ => False) (L6.Turn.of_keep hb3) ho2 (fun _ _ h => h)
              obtain ⟨Ap, cp, rfl, _, _⟩ := ho2'.slice HPL.out
              obtain ⟨adp, rfl⟩ := ownI_ad ho2' (by rw [HPL.out]; omega)
              have HI := Lib.hid (show Calls Try.prog 18 #[.slice (some adp) (lm + 1) cp, vb] w3 (gives (.bool true) w3) from by
                have := ints_any ho2'.see ho3.see (by rw [HPL.out]; have := HLE.out; have := (HGD.out.rd mm hmB).2; rw [HPL.out] at *; omega)
                rw [decide_eq_true rfl] at this
                exact this)
              have HC1 := Lib.hid (fun W (hb : Below w3.heap.size w3 W) (i : Nat) (hi : i < p.length) => ownI_cell (L6.Turn.row (S := fun _ => False) (L6.Turn.of_keep hb) ho2' (fun _ _ h => h) : OwnI W wr.heap.size (.slice (some adp) (lm + 1) cp) p) hi)
              have HC2 := Lib.hid (fun W (hb : Below w3.heap.size w3 W) (j : Nat) (hj : j < Bs.length) => ownB_cells (hR3.keep hb).l hj)
              have HR3 := Lib.hid hR3
              clear hR3 ho2 ho2' ho3 HPa HPb HR
              have hq1 : (((lm : Int) + 1) != ((lm : Int) + 1)) = false := by simp
              have hq2 : (((mm : Int) + 1) != ((mm : Int) + 1)) = false := by simp
              have hlmb : lm ≤ 100000 := by have := HLE.out; have := (HGD.out.rd mm hmB).2; have := HPL.out; omega
              have HRDm := Lib.hid (show Bs[mm].rd = (lm : Int) + 1 from by rw [← HLE.out, HPL.out]; omega)
              have HLA2 := Lib.hid (show p[lm] = (mm : Int) + 1 from HLA.out)
              have HR1 := Lib.hid (fun w4 (hb4 : Below w3.heap.size w3 w4) => (show w4.cell? ⟨(adl.add (mm * 14)).block, (adl.add (mm * 14)).off + 1, none⟩ = some (.int .i64 ((lm : Int) + 1)) from by
                rw [← add_field adl (mm * 14) 1 (by decide), HC2.out w4 hb4 mm hmB 1 _ rfl]
                exact congrArg (fun z => some (Value.int .i64 z)) HRDm.out))
              have HR2 := Lib.hid (fun w4 (hb4 : Below w3.heap.size w3 w4) => (show w4.cell? (adp.add lm) = some (.int .i64 ((mm : Int) + 1)) from by
                rw [HC1.out w4 hb4 lm hlm, HLA2.out]))
              go_upto_block 8 with (first
                | (go_at_call 18; refine HI.out.mono ?_; unfold gives; rintro e w4 ⟨rfl, hb4⟩
                   have r1 := HR1.out w4 hb4
                   have r2 := HR2.out w4 hb4)
                | go_in)
              clear hq1 hq2 r1 r2 hb2 hb3
              go_wp2
              go_loopw [26] (fun i wr => ∃ k : Nat, i = .int .i64 k ∧ k ≤ lm + 1 ∧ Below w3.heap.size w3 wr) (fun i _ => lm + 1 - (RowKit.intOf i).toNat)
              case atStart => exact ⟨0, rfl, Nat.zero_le _, hb4⟩
              case round =>
                clear hb4
                obtain ⟨i, rfl, him, hb5⟩ := hrel
                by_cases hit : i < lm + 1
                · have hip : i < p.length := by rw [HPL.out]; exact hit
                  obtain ⟨jj, hjj, hpi, hpar⟩ := HCH.out i hip
                  have hjn : jj < n := by have := HBL.out; omega
                  have c1 : wr.cell? (adp.add i) = some (.int .i64 ((jj : Int) + 1)) := by rw [HC1.out wr hb5 i hip, hpi]
                  have c2 : wr.cell? ⟨(adl.add (jj * 14)).block, (adl.add (jj * 14)).off + 4 + 1, none⟩ = some (.int .i64 Bs[jj].p) := by
                    rw [Nat.add_assoc]
                    show wr.cell? ⟨(adl.add (jj * 14)).block, (adl.add (jj * 14)).off + 5, none⟩ = _
                    rw [← add_field adl (jj * 14) 5 (by decide), HC2.out wr hb5 jj hjj 5 _ rfl]
                  have HB5 := Lib.hid hb5
                  by_cases h0 : i = 0
                  · rw [if_pos h0] at hpar
                    rw [hpar] at c2
                    have hng : ¬ (0 : Int) < i := by omega
                    clear hpar hpi hb5 h0
                    go_wp2
                    go_roundw
                    case rel => exact ⟨i + 1, by go_num, by omega, HB5.out⟩
                    case measure => simp [RowKit.intOf]; omega
                  · rw [if_neg h0] at hpar
                    obtain ⟨q, rfl⟩ : ∃ q, i = q + 1 := ⟨i - 1, by omega⟩
                    have hqp : q < p.length := by omega
                    rw [Nat.add_sub_cancel, List.getD_eq_getElem?_getD, List.getElem?_eq_getElem hqp, Option.getD_some] at hpar
                    rw [hpar] at c2
                    have hgt : (0 : Int) < (q : Int) + 1 := by omega
                    rw [show adp.add (q + 1) = ⟨adp.block, adp.off + (q + 1), none⟩ from by unfold Addr.add; split <;> simp_all] at c1
                    have c3 : wr.cell? (adp.add q) = some (.int .i64 p[q]) := HC1.out wr hb5 q hqp
                    obtain ⟨z, hz⟩ : ∃ z, z = p[q] := ⟨_, rfl⟩
                    rw [← hz] at c2 c3
                    have hzz : (z != z) = false := by simp
                    clear hpar hpi hb5 hz h0
                    go_wp2
                    go_roundw
                    case rel => exact ⟨q + 1 + 1, by go_num, by omega, HB5.out⟩
                    case measure => simp [RowKit.intOf]; omega
                · have HB5 := Lib.hid hb5
                  clear hb5
                  go_wp2
                  go_roundw
                  case rel => exact ⟨mm + 1 + 1, by go_num, by omega, by omega, HR3.out.keep HB5.out⟩
                  case measure => simp [RowKit.intOf]; omega
            · have hb := hR.below
              clear hR
              go_wp2
              go_ret
              exact ⟨rfl, hb⟩
end Go.Proofs.Ytgepokdilieodaa
