/-
  The walk of the law on what any calls answer.
-/
import Derived.Test.YtjkfogjhakcnfaaDoorFour
import Derived.Deep.Cut
import Derived.Deep.CutBlock
set_option linter.unusedSimpArgs false
set_option linter.unusedVariables false
namespace Go.Proofs.YtjkfogjhakcnfaaDoor
open Go.RowKit Go.Maps Go.Lib

/-- A store of a whole struct into a block that is there. -/
theorem wpList_store_at {P : Program} {ops : Array Oper} {rest : List Oper} {o : Oper} {a : Act} {w : World} {Q : Exit → Act → World → Prop} (hw : Region.wanted o (yielded ops a.tmps) = true) (ty : TypeId) (x y : Operand) (ho : o.op = .store ty x y) (g : Nat) (cells : Array Value) (hx : a.eval x = .pointer (some ⟨g, 0, none⟩)) (hy : a.eval y = .agg cells)
    (t : TypeId) (old : Array Value) (hb : Blk w g t old) (hi : (P.info? ty).map (·.size) = some cells.size) (hold : old.size = cells.size) (h1 : cells.all (·.oneCell') = true)
    (h : wpList P ops Q rest (a.put o.dst undef) (w.setRow g cells)) : wpList P ops Q (o :: rest) a w := by
  refine wpList_wanted hw fun _ hK => ?_
  refine wp_store_row ty x y ho g cells hx hy t old hb hi hold h1 ?_
  exact hK _ _ h
theorem Blk.row {w : World} {g : Nat} {t : TypeId} {cs : Array Value} (h : Blk w g t cs) (cs' : Array Value) : Blk (w.setRow g cs') g t cs' := by
  unfold Blk at h ⊢
  simp [World.setRow, Array.getElem?_modify, h]
theorem below_row {B g : Nat} {w w' : World} (h : Below B w w') (hg : B ≤ g) (cs : Array Value) : Below B w (w'.setRow g cs) :=
  ⟨h.os, h.tape, h.output, by simp [World.setRow]; exact h.size, fun i hi => by
    have hne : ¬ g = i := by omega
    simp only [World.setRow, Array.getElem?_modify, if_neg hne]
    exact h.block i hi⟩
theorem shrZero : (#[.int .i64 0, .int .i64 0, .int .i64 0, .int .i64 0, .int .i64 0, .int .i64 0, .int .i64 0, .int .i64 0, .int .i64 0, .int .i64 0, .int .i64 0] : Array Value) = shrC ⟨0, ⟨0, 0, 0, 0, 0, 0, 0, 0, 0, 0⟩⟩ := rfl
theorem actKinds (k : Int) : (k == 0) = true ∨ ((k == 0) = false ∧ (k == 1) = true) ∨ ((k == 0) = false ∧ (k == 1) = false ∧ (k == 2) = true) ∨ ((k == 0) = false ∧ (k == 1) = false ∧ (k == 2) = false) := by
  cases (k == 0) <;> cases (k == 1) <;> cases (k == 2) <;> simp
/-- What the reads of a call's fields meet. -/
def holdB (p : Nat) (a : Actx) (W : World) : Prop := Blk W p 42 (actC a)
/-- .. and of a share's. -/
def holdX (p q : Nat) (a : Actx) (W : World) : Prop := Blk W p 42 (actC a) ∧ Blk W q 53 (shrC ⟨a.who, coinS a.view⟩)
set_option maxHeartbeats 8000000 in
set_option maxRecDepth 100000 in
theorem plays_walk (f h : Int) (bad : Nat) (A : Option Addr) (n cp : Nat) (D : Nat → Actx) (w : World) (hf : inI f) (hh : inI h) (hbad : bad < 4294967296) (h0 : Acts w A n D) (hT : Tab w) :
    Calls Tryd.prog 3 #[.int .i64 f, .int .i64 h, .int .u32 bad, .slice A n cp] w (alivePost w) := by
  have hal := alive_any _ hT
  have HT := Lib.hid hT
  have HA := Lib.hid hal
  have HACT := Lib.hid h0
  have hall := fun w => refall_any f w hf.1 hf.2
  clear hal hT h0
  by_cases hn : 100 < n
  · clear hall
    go_enter Tryd.func3, Tryd.ntmps3
    go_wp2_with (go_at_call 6; refine HA.out.mono ?_; unfold alivePost; rintro e w1 ⟨rfl, hb1⟩)
    go_ret
    exact ⟨rfl, hb1⟩
  · have hn' : decide ((100 : Int) < (n : Int)) = false := by simp; omega
    by_cases he : newE h bad = 0
    · have hnew := fun w => new_ok h bad w hbad he
      have hrnew := fun w => refnew_ok h bad w hh hbad he
      have HN := Lib.hid hnew
      have HR := Lib.hid hrnew
      clear hnew hrnew he
      rcases Bool.eq_false_or_eq_true (isF f) with hi | hi
      · obtain ⟨mo, hmo⟩ : ∃ mo, mo = more 3 f := ⟨_, rfl⟩
        have hmp : (mo == 0) = false := by
          have := isF_le hi
          rw [hmo]
          unfold more
          rw [if_pos hi]
          simp
          omega
        simp only [← hmo] at hall
        have HL := Lib.hid hall
        have HI := Lib.hid hi
        clear hall hmo hi
        go_enter Tryd.func3, Tryd.ntmps3
        go_wp2_with (first
          | (go_at_call 6; refine HA.out.mono ?_; unfold alivePost; rintro e w1 ⟨rfl, hb1⟩)
          | (go_at_call 7; refine (HN.out _).mono ?_; rintro e w2 ⟨g, rfl, hS2, hb2⟩)
          | (go_at_call 8; refine (HR.out _).mono ?_; rintro e w3 ⟨m, rfl, hR3, hb3⟩)
          | (go_at_call 9; refine (newc_ok f _ HI.out).mono ?_; rintro e w4 ⟨c, rfl, hC4, hb4⟩)
          | (go_at_call 10; refine (HL.out _).mono ?_; rintro e w5 ⟨rfl, rfl⟩))
        have hF := Four.made hb1 hS2 hb2 hR3 hb3 hC4 hb4
        obtain ⟨r, hr⟩ : ∃ r, r = w4.heap.size := ⟨_, rfl⟩
        obtain ⟨wz, hwz⟩ : ∃ wz, wz = w4.alloc (.cells #[.int .i64 f, .slice none 0 0, .slice none 0 0] 40) := ⟨_, rfl⟩
        rw [← hwz, ← hr] at hF
        rw [← hwz, ← hr]
        have hn100 : n ≤ 100 := by omega
        clear hS2 hb2 hR3 hb3 hC4 hb4 hb1 hn hr hwz
        go_loopw [16] (fun i wr => ∃ (k : Nat) (U : Nat → Prop) (G : List (Int × Int)) (N : List Int) (L : List Shr), i = .int .i64 k ∧ k ≤ n ∧ Four w U c g m r f h bad G N L G N L (4 * k) wr) (fun i _ => n - (intOf i).toNat)
        case atStart => exact ⟨0, _, [], [], [], rfl, Nat.zero_le _, hF⟩
        case round =>
          obtain ⟨k, U, G, N, L, rfl, hk, hR⟩ := hrel
          clear hF
          by_cases hlt : k < n
          · obtain ⟨ad, rfl, had, hcell, hfit⟩ := HACT.out k hlt
            obtain ⟨⟨kd, vi, wo, st⟩, ha⟩ : ∃ a, a = D k := ⟨_, rfl⟩
            rw [← ha] at hcell hfit
            obtain ⟨hkd, hvi, hwo, hst⟩ := hfit
            dsimp only at hkd hvi hwo hst
            have hcw : ∀ j u, (actL ⟨kd, vi, wo, st⟩)[j]? = some u → wr.cell? ((ad.add (k * 4)).add j) = some u := fun j u hj => (hR.below.cell (by rw [block_of_add, block_of_add]; exact had)).trans (hcell j u hj)
            have HCW := Lib.hid hcw
            have HR := Lib.hid hR
            clear hcw hcell ha hR
            go_upto_region 17 with (first
              | (refine wpList_cells_at rfl _ _ rfl (ad.add (k * 4)) rfl (actL ⟨kd, vi, wo, st⟩) _ HCW.out Tryd.underlying42 rfl (by kernel_rfl) ?_)
              | (refine wpList_store_new rfl _ _ _ rfl wr (actC ⟨kd, vi, wo, st⟩) rfl rfl _ _ (by kernel_rfl) rfl (by kernel_rfl) ?_))
            refine name_world (fun wa hwa => ?_)
            have hxa : Blk wa wr.heap.size 42 (actC ⟨kd, vi, wo, st⟩) := by rw [hwa]; exact Blk.new _ _ _
            have hba : Below wr.heap.size wr wa := by rw [hwa]; exact (Below.refl _ _).alloc (Nat.le_refl _) _
            obtain ⟨p, hp⟩ : ∃ p, p = wr.heap.size := ⟨_, rfl⟩
            have hUp : ¬ U p := fun h => by have := HR.out.inU _ h; omega
            rw [← hp] at hxa ⊢
            have HRA := Lib.hid (HR.out.keep hba)
            clear hwa hba hp
            have a0 : wa.cell? ⟨p, 0, none⟩ = some (.int .i64 kd) := hxa.cell 0
            have a1 : wa.cell? ⟨p, 1, none⟩ = some (.int .i64 vi) := hxa.cell 1
            have a2 : wa.cell? ⟨p, 2, none⟩ = some (.int .i64 wo) := hxa.cell 2
            have a3 : wa.cell? ⟨p, 3, none⟩ = some (.int .u32 st) := hxa.cell 3
            have hw' : IntKind.i64.wrap (k : Int) = (k : Int) := IntWalk.i64_in _ (by omega)
            have hkk : 4 * k + 1 ≤ 1000000000 := by omega
            have hkk0 : 4 * k ≤ 1000000000 := by omega
            go_upto_block 2 with fail
            go_cut [17] from 68 to 160 (fun a wx => a = .pointer (some ⟨p, 0, none⟩) ∧ ∃ (V : Nat → Prop) (G' : List (Int × Int)) (N' : List Int) (L' : List Shr), Four w V c g m r f h bad G' N' L' G' N' L' (4 * k + 2) wx ∧ Blk wx p 42 (actC ⟨kd, vi, wo, st⟩))
            case first =>
              rcases actKinds kd with h0 | ⟨h0, h1⟩ | ⟨h0, h1, h2⟩ | ⟨h0, h1, h2⟩
              · -- case 0
                have ne : Nonempty (WorldIn (holdB p ⟨kd, vi, wo, st⟩)) := ⟨⟨wa, hxa⟩⟩
                have p1 : ∀ y : WorldIn (holdB p ⟨kd, vi, wo, st⟩), y.w.cell? ⟨p, 1, none⟩ = some (.int .i64 vi) := fun y => Blk.cell y.h 1
                have p2 : ∀ y : WorldIn (holdB p ⟨kd, vi, wo, st⟩), y.w.cell? ⟨p, 2, none⟩ = some (.int .i64 wo) := fun y => Blk.cell y.h 2
                have H1 := Lib.hid (four_choose (HRA.out.keep (below_drew (Below.refl _ _))) hkk0 vi wo)
                have H2 := Lib.hid (fun W V (d : Four w V c g m r f h bad (chooseG f G N vi wo) N L G N L (4 * k + 1) W) => four_rchoose d hkk hf vi wo)
                obtain ⟨q, hq⟩ : ∃ q, q = chooseE f G N vi wo := ⟨_, rfl⟩
                simp only [← hq] at H1 H2
                have hqq : (q != q) = false := by simp
                clear hq
                go_wp2_with fail
                refine wp_region_K (holdB p ⟨kd, vi, wo, st⟩) [0, 1, 2, 3, 4, 6, 7, 8, 9, 10, 12] (by kernel_rfl) ?_
                refine wpK_quiet (f := 3) (by kernel_rfl) (fun _ x _ _ _ h => by cases x <;> exact h) (show holdB p ⟨kd, vi, wo, st⟩ wa.drew from hxa) [0, 1, 2, 3, 4, 6, 7, 8, 9, 10] _ _ (by kernel_rfl) (by kernel_rfl) (by kernel_rfl) ?_
                conv => arg 5; simp [pick]
                go_big_quiet_step (fail)
                go_big_quiet_step (fail)
                go_big_quiet_step (fail)
                go_big_quiet_step (fail)
                go_big_quiet_step (fail)
                go_big_quiet_step (fail)
                go_big_quiet_step (fail)
                go_big_quiet_step (fail)
                go_big_quiet_step (fail)
                go_big_quiet_step (fail)
                refine wpQuiet_nil ?_
                refine wpK_step 5 (by kernel_rfl) rfl ?_
                go_wp2_with (go_at_call 11; refine H1.out.mono ?_; rintro e w5 ⟨rfl, d5, ht5⟩)
                have hx5 := Turn.blk ht5 (show Blk wa.drew p 42 (actC ⟨kd, vi, wo, st⟩) from hxa) hUp
                have hU5 := spare_more (w' := w5) hUp hxa.drew.lt
                refine stepQ.mk ⟨fun _ => hx5, ?_⟩
                refine wpK_step 11 (by kernel_rfl) rfl ?_
                go_wp2_with (go_at_call 12; refine (H2.out _ _ d5).mono ?_; rintro e w6 ⟨rfl, d6, ht6⟩)
                have hx6 := ht6.blk hx5 hU5
                refine stepQ.mk ⟨fun _ => hx6, ?_⟩
                refine wpK_quiet (f := 0) (by kernel_rfl) (fun _ x _ _ _ h => by cases x <;> exact h) (show holdB p ⟨kd, vi, wo, st⟩ w6 from hx6) [12] _ _ (by kernel_rfl) (by kernel_rfl) (by kernel_rfl) ?_
                conv => arg 5; simp [pick]
                go_big_quiet_step (fail)
                refine wpQuiet_nil ?_
                refine wpK_seq [] _ _ _ (by kernel_rfl) ?_
                conv => arg 4; simp [pick]
                go_wp2
                go_meet
                exact ⟨rfl, _, _, _, _, d6, hx6⟩
              · -- case 1
                have H1 := Lib.hid (four_see HRA.out hkk0 hbad HT.out vi st hst)
                have H2 := Lib.hid (fun W V N' (d : Four w V c g m r f h bad G N' L G N L (4 * k + 1) W) => four_rsee d hkk HI.out hbad vi st hst)
                obtain ⟨q, hq⟩ : ∃ q, q = seeE f h bad L vi st := ⟨_, rfl⟩
                obtain ⟨z, hz⟩ : ∃ z, z = seeW f h bad L G vi st := ⟨_, rfl⟩
                simp only [← hq, ← hz] at H1 H2
                have hqq : (q != q) = false := by simp
                have hzz : (z != z) = false := by simp
                clear hq hz
                go_wp2_with (first
                  | (go_at_call 13; refine H1.out.mono ?_; rintro e w5 ⟨rfl, d5, ht5⟩; have hx5 := Turn.blk ht5 hxa hUp; have hU5 := spare_more (w' := w5) hUp hxa.lt; have b1 : w5.cell? ⟨p, 1, none⟩ = some (.int .i64 vi) := hx5.cell 1; have b3 : w5.cell? ⟨p, 3, none⟩ = some (.int .u32 st) := hx5.cell 3)
                  | (go_at_call 14; refine (H2.out _ _ _ d5).mono ?_; rintro e w6 ⟨rfl, d6, ht6⟩; have hx6 := ht6.blk hx5 hU5))
                go_meet
                exact ⟨rfl, _, _, _, _, d6, hx6⟩
              · -- case 2
                go_wp2_with fail
                go_cut [22] from 131 to 136 (fun a wx => ∃ q : Nat, a = .pointer (some ⟨q, 0, none⟩) ∧ wa.heap.size ≤ q ∧ Blk wx q 53 (shrC ⟨wo, coinS vi⟩) ∧ Below wa.heap.size wa wx)
                case first =>
                  have ne : Nonempty (WorldIn (holdB p ⟨kd, vi, wo, st⟩)) := ⟨⟨wa, hxa⟩⟩
                  have p1 : ∀ y : WorldIn (holdB p ⟨kd, vi, wo, st⟩), y.w.cell? ⟨p, 1, none⟩ = some (.int .i64 vi) := fun y => Blk.cell y.h 1
                  have p2 : ∀ y : WorldIn (holdB p ⟨kd, vi, wo, st⟩), y.w.cell? ⟨p, 2, none⟩ = some (.int .i64 wo) := fun y => Blk.cell y.h 2
                  refine wp_region_K (holdB p ⟨kd, vi, wo, st⟩) [0, 1, 2, 3, 5] (by kernel_rfl) ?_
                  refine wpK_quiet (f := 4) (by kernel_rfl) (fun _ x _ _ _ h => by cases x <;> exact h) (show holdB p ⟨kd, vi, wo, st⟩ wa.drew from hxa) [0, 1, 2, 3] _ _ (by kernel_rfl) (by kernel_rfl) (by kernel_rfl) ?_
                  conv => arg 5; simp [pick]
                  go_big_quiet_step (fail)
                  go_big_quiet_step (fail)
                  go_big_quiet_step (fail)
                  go_big_quiet_step (fail)
                  refine wpQuiet_nil ?_
                  have hbd : Below wa.heap.size wa wa.drew := below_drew (Below.refl _ _)
                  refine wpK_two 4 6 (by kernel_rfl) rfl rfl ?_ ?_
                  · go_wp2_with (go_at_call 15; refine (stmt_any vi _).mono ?_; rintro e w5 ⟨rfl, hb5'⟩)
                    have hb5 : Below wa.heap.size wa w5 := undrew hb5'
                    have hx5 : Blk w5 p 42 (actC ⟨kd, vi, wo, st⟩) := hxa.below hb5 hxa.lt
                    refine stepQ.mk ⟨fun _ => hx5, ?_⟩
                    refine wpK_quiet (f := 2) (by kernel_rfl) (fun _ x _ _ _ h => by cases x <;> exact h) (show holdB p ⟨kd, vi, wo, st⟩ w5 from hx5) [5] _ _ (by kernel_rfl) (by kernel_rfl) (by kernel_rfl) ?_
                    conv => arg 5; simp [pick]
                    refine wpQuiet_build rfl _ _ rfl #[(0, .int .i64 wo), (1, .agg (stmC (coinS vi)))] rfl (build_shr _ (coinS vi)) ?_
                    conv => arg 6; simp only [Act.put, List.setIfInBounds_toArray, List.set_cons_zero, List.set_cons_succ]
                    refine wpQuiet_nil ?_
                    refine wpK_step 6 (by kernel_rfl) rfl ?_
                    go_wp2
                    refine stepQ.mk ⟨fun _ => hx5.alloc _, ?_⟩
                    refine wpK_step 7 (by kernel_rfl) rfl ?_
                    refine wpList_store_new rfl _ _ _ rfl w5 (shrC ⟨wo, coinS vi⟩) rfl rfl _ _ (by kernel_rfl) rfl (by kernel_rfl) ?_
                    go_wp2
                    refine stepQ.mk ⟨fun _ => hx5.alloc _, ?_⟩
                    refine wpK_seq [] _ _ _ (by kernel_rfl) ?_
                    conv => arg 4; simp [pick]
                    go_wp2
                    go_meet
                    exact ⟨w5.heap.size, rfl, hb5.size, Blk.new _ _ _, hb5.alloc hb5.size _⟩
                  · go_wp2
                    have hxz : Blk (wa.alloc (.cells #[.int .i64 0, .int .i64 0, .int .i64 0, .int .i64 0, .int .i64 0, .int .i64 0, .int .i64 0, .int .i64 0, .int .i64 0, .int .i64 0, .int .i64 0] 53)).drew p 42 (actC ⟨kd, vi, wo, st⟩) := (hxa.alloc _).drew
                    have hqz : Blk (wa.alloc (.cells #[.int .i64 0, .int .i64 0, .int .i64 0, .int .i64 0, .int .i64 0, .int .i64 0, .int .i64 0, .int .i64 0, .int .i64 0, .int .i64 0, .int .i64 0] 53)).drew wa.heap.size 53 #[.int .i64 0, .int .i64 0, .int .i64 0, .int .i64 0, .int .i64 0, .int .i64 0, .int .i64 0, .int .i64 0, .int .i64 0, .int .i64 0, .int .i64 0] := (Blk.new _ _ _).drew
                    have hbz : Below wa.heap.size wa (wa.alloc (.cells #[.int .i64 0, .int .i64 0, .int .i64 0, .int .i64 0, .int .i64 0, .int .i64 0, .int .i64 0, .int .i64 0, .int .i64 0, .int .i64 0, .int .i64 0] 53)).drew := below_drew ((Below.refl _ _).alloc (Nat.le_refl _) _)
                    obtain ⟨wz, hwz⟩ : ∃ wz, wz = (wa.alloc (.cells #[.int .i64 0, .int .i64 0, .int .i64 0, .int .i64 0, .int .i64 0, .int .i64 0, .int .i64 0, .int .i64 0, .int .i64 0, .int .i64 0, .int .i64 0] 53)).drew := ⟨_, rfl⟩
                    rw [← hwz] at hxz hqz hbz ⊢
                    clear hwz
                    refine stepQ.mk ⟨fun _ => hxz, ?_⟩
                    refine wpK_step 4 (by kernel_rfl) rfl ?_
                    go_wp2_with (go_at_call 15; refine (stmt_any vi _).mono ?_; rintro e w5 ⟨rfl, hb5⟩)
                    have hx5 : Blk w5 p 42 (actC ⟨kd, vi, wo, st⟩) := hxz.below hb5 hxz.lt
                    have hq5 := hqz.below hb5 hqz.lt
                    have hb05 : Below wa.heap.size wa w5 := nxt hbz hb5 hbz.size
                    refine stepQ.mk ⟨fun _ => hx5, ?_⟩
                    refine wpK_quiet (f := 1) (by kernel_rfl) (fun _ x _ _ _ h => by cases x <;> exact h) (show holdB p ⟨kd, vi, wo, st⟩ w5 from hx5) [5] _ _ (by kernel_rfl) (by kernel_rfl) (by kernel_rfl) ?_
                    conv => arg 5; simp [pick]
                    refine wpQuiet_build rfl _ _ rfl #[(0, .int .i64 wo), (1, .agg (stmC (coinS vi)))] rfl (build_shr _ (coinS vi)) ?_
                    conv => arg 6; simp only [Act.put, List.setIfInBounds_toArray, List.set_cons_zero, List.set_cons_succ]
                    refine wpQuiet_nil ?_
                    refine wpK_step 7 (by kernel_rfl) rfl ?_
                    refine wpList_store_at rfl _ _ _ rfl wa.heap.size (shrC ⟨wo, coinS vi⟩) rfl rfl _ _ hq5 (by kernel_rfl) rfl (by kernel_rfl) ?_
                    go_wp2
                    refine stepQ.mk ⟨fun _ => (show Blk (w5.setRow wa.heap.size _) p 42 _ from hx5.below (below_row (Below.refl wa.heap.size w5) (Nat.le_refl _) _) hxa.lt), ?_⟩
                    refine wpK_seq [] _ _ _ (by kernel_rfl) ?_
                    conv => arg 4; simp [pick]
                    go_wp2
                    go_meet
                    exact ⟨wa.heap.size, rfl, Nat.le_refl _, hq5.row _, below_row hb05 (Nat.le_refl _) _⟩
                case rest =>
                  obtain ⟨q, rfl, hqs, hqc, hbc⟩ := hcut
                  have hxc : Blk wc p 42 (actC ⟨kd, vi, wo, st⟩) := hxa.below hbc hxa.lt
                  have hUq : ¬ U q := fun h => by have := HRA.out.inU _ h; omega
                  have H1 := Lib.hid (four_issue (HRA.out.keep (below_drew hbc)) hkk0 ⟨wo, coinS vi⟩ ⟨hwo, coinS_wf hvi⟩)
                  have H2 := Lib.hid (fun W V (d : Four w V c g m r f h bad G N (issL h L ⟨wo, coinS vi⟩) G N L (4 * k + 1) W) => four_rissue d hkk hh ⟨wo, coinS vi⟩ ⟨hwo, coinS_wf hvi⟩)
                  obtain ⟨z, hz⟩ : ∃ z, z = repE h wo := ⟨_, rfl⟩
                  have H1' := Lib.hid H1.out
                  simp only [show (Shr.mk wo (coinS vi)).k = wo from rfl, ← hz] at H1 H2
                  have hzz : (z != z) = false := by simp
                  have hne : ∀ W, (binOp .neq 50 (.agg (stmC (coinS vi))) (.agg (stmC (coinS vi)))).run Tryd.prog W = .ok (.bool false) W := fun W => by
                    have := neqM (coinS_wf hvi) (coinS_wf hvi) W
                    rw [decide_eq_true rfl] at this
                    exact this
                  have HNE := Lib.hid hne
                  clear hz hne H1'
                  have hX : holdX p q ⟨kd, vi, wo, st⟩ wc.drew := ⟨hxc, hqc⟩
                  have ne : Nonempty (WorldIn (holdX p q ⟨kd, vi, wo, st⟩)) := ⟨⟨wc.drew, hX⟩⟩
                  have p1 : ∀ y : WorldIn (holdX p q ⟨kd, vi, wo, st⟩), y.w.cell? ⟨p, 1, none⟩ = some (.int .i64 vi) := fun y => Blk.cell y.h.1 1
                  have pq := fun y : WorldIn (holdX p q ⟨kd, vi, wo, st⟩) => y.h.2
                  have ps : ∀ y : WorldIn (holdX p q ⟨kd, vi, wo, st⟩), ∀ j v, (stmL (coinS vi))[j]? = some v → y.w.cell? ((⟨q, 1, none⟩ : Addr).add j) = some v := fun y => stm_in y.h.2
                  clear a0 a1 a2 a3
                  go_wp2_with fail
                  refine wp_region_K (holdX p q ⟨kd, vi, wo, st⟩) [0, 1, 2, 3, 4, 5, 6, 7, 8, 10, 11, 13, 14] (by kernel_rfl) ?_
                  refine wpK_quiet (f := 4) (by kernel_rfl) (fun _ x _ _ _ h => by cases x <;> exact h) hX [0, 1, 2, 3, 4, 5, 6, 7, 8, 10, 11] _ _ (by kernel_rfl) (by kernel_rfl) (by kernel_rfl) ?_
                  conv => arg 5; simp [pick]
                  go_big_quiet_step (fail)
                  refine wpQuiet_cells rfl _ _ rfl _ rfl (stmL (coinS vi)) _ ps Tryd.underlying50 rfl (by kernel_rfl) ?_
                  conv => arg 6; simp only [Act.put, List.setIfInBounds_toArray, List.set_cons_zero, List.set_cons_succ]
                  go_big_quiet_step (fail)
                  go_big_quiet_step (fail)
                  refine wpQuiet_build rfl _ _ rfl #[(0, .int .i64 5), (2, .int .i64 vi)] rfl (build_coin vi) ?_
                  conv => arg 6; simp only [Act.put, List.setIfInBounds_toArray, List.set_cons_zero, List.set_cons_succ]
                  refine wpQuiet_binop rfl _ _ _ _ _ rfl (stmC (coinS vi)) (stmC (coinS vi)) rfl rfl (by kernel_rfl) HNE.out ?_
                  conv => arg 6; simp only [Act.put, List.setIfInBounds_toArray, List.set_cons_zero, List.set_cons_succ]
                  go_big_quiet_step (fail)
                  go_big_quiet_step (fail)
                  refine wpQuiet_row rfl _ _ rfl _ rfl _ _ _ _ pq Tryd.underlying53 rfl (by kernel_rfl) ?_
                  conv => arg 6; simp only [Act.put, List.setIfInBounds_toArray, List.set_cons_zero, List.set_cons_succ]
                  go_big_quiet_step (fail)
                  refine wpQuiet_row rfl _ _ rfl _ rfl _ _ _ _ pq Tryd.underlying53 rfl (by kernel_rfl) ?_
                  conv => arg 6; simp only [Act.put, List.setIfInBounds_toArray, List.set_cons_zero, List.set_cons_succ]
                  refine wpQuiet_nil ?_
                  refine wpK_step 9 (by kernel_rfl) rfl ?_
                  go_wp2_with (go_at_call 16; refine H1.out.mono ?_; rintro e w5 ⟨rfl, d5, ht5⟩)
                  have hx5 := Turn.blk ht5 hX.1 hUp
                  have hq5 := Turn.blk ht5 hX.2 hUq
                  have hU5 := spare_more (w' := w5) hUp hX.1.lt
                  have hU5q := spare_more (w' := w5) hUq hX.2.lt
                  refine stepQ.mk ⟨fun _ => ⟨hx5, hq5⟩, ?_⟩
                  refine wpK_step 12 (by kernel_rfl) rfl ?_
                  go_wp2_with (go_at_call 17; refine (H2.out _ _ d5).mono ?_; rintro e w6 ⟨rfl, d6, ht6⟩)
                  have hx6 := ht6.blk hx5 hU5
                  have hq6 := ht6.blk hq5 hU5q
                  refine stepQ.mk ⟨fun _ => ⟨hx6, hq6⟩, ?_⟩
                  refine wpK_quiet (f := 0) (by kernel_rfl) (fun _ x _ _ _ h => by cases x <;> exact h) (⟨hx6, hq6⟩ : holdX p q ⟨kd, vi, wo, st⟩ w6) [13, 14] _ _ (by kernel_rfl) (by kernel_rfl) (by kernel_rfl) ?_
                  conv => arg 5; simp [pick]
                  go_big_quiet_step (fail)
                  go_big_quiet_step (fail)
                  refine wpQuiet_nil ?_
                  refine wpK_seq [] _ _ _ (by kernel_rfl) ?_
                  conv => arg 4; simp [pick]
                  go_wp2
                  go_meet
                  exact ⟨rfl, _, _, _, _, d6, hx6⟩
              · go_wp2_with fail
                go_meet
                exact ⟨rfl, _, _, _, _, HRA.out.le (by omega), hxa⟩
            case rest =>
              obtain ⟨rfl, V, G', N', L', hF, hxc⟩ := hcut
              have b1 : wc.cell? ⟨p, 1, none⟩ = some (.int .i64 vi) := hxc.cell 1
              have H1 := Lib.hid (fun W (hW : Below wc.heap.size wc W) => four_seen (hF.keep hW) vi hvi)
              have H2 := Lib.hid (fun W (hW : Below wc.heap.size wc W) => four_was (hF.keep hW) (by omega) vi)
              obtain ⟨b, hb⟩ : ∃ b, b = decide (vi ∈ N') := ⟨_, rfl⟩
              simp only [← hb] at H1 H2
              have hbb : (b != b) = false := by simp
              have HF := Lib.hid hF
              clear hb hF hxc a0 a1 a2 a3
              go_wp2_with fail
              go_quiet (first
                | (go_at_call 18; exact quiet_left (H1.out _ (below_drewN (Below.refl _ _) _)))
                | (go_at_call 19; exact quiet_left (H2.out _ (below_drewN (Below.refl _ _) _))))
              go_wp2
              go_roundw
              case rel => exact ⟨k + 1, V, G', N', L', by go_num, by omega, (HF.out.keep (below_drewN (Below.refl _ _) _)).le (by omega)⟩
              case measure => simp [intOf]; omega
          · go_wp2_with fail
            go_ret
            exact ⟨rfl, hR.below⟩
      · obtain ⟨mo, hmo⟩ : ∃ mo, mo = more 3 f := ⟨_, rfl⟩
        have hmz : mo = 0 := by rw [hmo]; unfold more; rw [if_neg (by rw [hi]; decide)]
        simp only [← hmo, hmz] at hall
        have HL := Lib.hid hall
        have HI := Lib.hid hi
        clear hall hmo hi hmz
        go_enter Tryd.func3, Tryd.ntmps3
        go_wp2_with (first
          | (go_at_call 6; refine HA.out.mono ?_; unfold alivePost; rintro e w1 ⟨rfl, hb1⟩)
          | (go_at_call 7; refine (HN.out _).mono ?_; rintro e w2 ⟨g, rfl, hS2, hb2⟩)
          | (go_at_call 8; refine (HR.out _).mono ?_; rintro e w3 ⟨m, rfl, hR3, hb3⟩)
          | (go_at_call 9; refine (newc_not f _ HI.out).mono ?_; rintro e w4 ⟨rfl, rfl⟩)
          | (go_at_call 10; refine (HL.out _).mono ?_; rintro e w5 ⟨rfl, rfl⟩))
        go_ret
        exact ⟨rfl, nxt (nxt hb1 hb2 hb1.size) hb3 (nxt hb1 hb2 hb1.size).size⟩
    · have hnew := fun w => new_not h bad w hbad he
      have hrnew := fun w => refnew_not h bad w hh hbad he
      obtain ⟨e, hq⟩ : ∃ e, e = newE h bad := ⟨_, rfl⟩
      rw [← hq] at he
      simp only [← hq] at hnew hrnew
      have h0' : (e == 0) = false := by simpa using he
      have h1' : (e != 0) = true := by simpa using he
      have HN := Lib.hid hnew
      have HR := Lib.hid hrnew
      clear hnew hrnew he hq
      rcases Bool.eq_false_or_eq_true (isF f) with hi | hi
      · obtain ⟨mo, hmo⟩ : ∃ mo, mo = more 3 f := ⟨_, rfl⟩
        have hmp : (mo == 0) = false := by
          have := isF_le hi
          rw [hmo]
          unfold more
          rw [if_pos hi]
          simp
          omega
        simp only [← hmo] at hall
        have HL := Lib.hid hall
        have HI := Lib.hid hi
        clear hall hmo hi
        go_enter Tryd.func3, Tryd.ntmps3
        go_wp2_with (first
          | (go_at_call 6; refine HA.out.mono ?_; unfold alivePost; rintro e w1 ⟨rfl, hb1⟩)
          | (go_at_call 7; refine (HN.out _).mono ?_; rintro e w2 ⟨rfl, rfl⟩)
          | (go_at_call 8; refine (HR.out _).mono ?_; rintro e w3 ⟨rfl, hb3⟩)
          | (go_at_call 9; refine (newc_ok f _ HI.out).mono ?_; rintro e w4 ⟨c, rfl, hC4, hb4⟩)
          | (go_at_call 10; refine (HL.out _).mono ?_; rintro e w5 ⟨rfl, rfl⟩))
        have hb03 := nxt hb1 hb3 hb1.size
        have hb05 : Below w.heap.size w (w4.alloc (.cells #[.int .i64 f, .slice none 0 0, .slice none 0 0] 40)) := (nxt hb03 hb4 hb03.size).alloc (nxt hb03 hb4 hb03.size).size _
        obtain ⟨wz, hwz⟩ : ∃ wz, wz = w4.alloc (.cells #[.int .i64 f, .slice none 0 0, .slice none 0 0] 40) := ⟨_, rfl⟩
        rw [← hwz] at hb05
        rw [← hwz]
        clear hwz hb4 hC4 hb03 hb3 hb1
        go_loopw [16] (fun i wr => i = .int .i64 0 ∧ wr = wz) (fun _ _ => 0)
        case atStart => exact ⟨rfl, rfl⟩
        case round =>
          obtain ⟨rfl, rfl⟩ := hrel
          by_cases hz : 0 < n
          · have hz' : decide ((0 : Int) < (n : Int)) = true := by simp; omega
            go_wp2_with fail
            go_ret
            exact ⟨rfl, hb05⟩
          · have hz' : decide ((0 : Int) < (n : Int)) = false := by simp; omega
            go_wp2_with fail
            go_ret
            exact ⟨rfl, hb05⟩
      · obtain ⟨mo, hmo⟩ : ∃ mo, mo = more 3 f := ⟨_, rfl⟩
        have hmz : mo = 0 := by rw [hmo]; unfold more; rw [if_neg (by rw [hi]; decide)]
        simp only [← hmo, hmz] at hall
        have HL := Lib.hid hall
        have HI := Lib.hid hi
        clear hall hmo hi hmz
        go_enter Tryd.func3, Tryd.ntmps3
        go_wp2_with (first
          | (go_at_call 6; refine HA.out.mono ?_; unfold alivePost; rintro e w1 ⟨rfl, hb1⟩)
          | (go_at_call 7; refine (HN.out _).mono ?_; rintro e w2 ⟨rfl, rfl⟩)
          | (go_at_call 8; refine (HR.out _).mono ?_; rintro e w3 ⟨rfl, hb3⟩)
          | (go_at_call 9; refine (newc_not f _ HI.out).mono ?_; rintro e w4 ⟨rfl, rfl⟩)
          | (go_at_call 10; refine (HL.out _).mono ?_; rintro e w5 ⟨rfl, rfl⟩))
        go_ret
        exact ⟨rfl, nxt hb1 hb3 hb1.size⟩
end Go.Proofs.YtjkfogjhakcnfaaDoor
