/-
  The walk of the law on who sees the same.
-/
import Derived.Test.YtjkfogjhakcnfaaDoorOne
import Derived.Deep.Cut
import Derived.Deep.CutBlock
set_option linter.unusedSimpArgs false
set_option linter.unusedVariables false
namespace Go.Proofs.YtjkfogjhakcnfaaDoor
open Go.RowKit Go.Maps Go.Lib

theorem kinds (k : Int) : (k == 0) = true ∨ ((k == 0) = false ∧ (k == 1) = true) ∨ ((k == 0) = false ∧ (k == 1) = false ∧ (k == 2) = true) ∨ ((k == 0) = false ∧ (k == 1) = false ∧ (k == 2) = false) := by
  cases (k == 0) <;> cases (k == 1) <;> cases (k == 2) <;> simp
theorem slice_two (x y : Int) (w : World) : (Instr.buildSlice 58 2 #[(0, .int .u32 x), (1, .int .u32 y)]).run Tryd.prog w = .ok (.slice (some ⟨w.heap.size, 0, none⟩) 2 2) (w.alloc (.cells #[.int .u32 x, .int .u32 y] 22)) := by kernel_rfl
/-- What the reads of a share's call meet. -/
def holdA (p : Nat) (a : Actx) (W : World) : Prop := Blk W p 42 (actC a)
set_option maxHeartbeats 8000000 in
set_option maxRecDepth 100000 in
theorem one_walk (f : Int) (bad : Nat) (A : Option Addr) (n c : Nat) (D : Nat → Actx) (v : Int) (x y : Nat) (w : World) (hf : inI f) (hbad : bad < 4294967296) (h0 : Acts w A n D) (hv : inI v) (hx : x < 4294967296) (hy : y < 4294967296) (hT : Tab w) :
    Calls Tryd.prog 4 #[.int .i64 f, .int .u32 bad, .slice A n c, .int .i64 v, .int .u32 x, .int .u32 y] w (alivePost w) := by
  have hal := alive_any _ hT
  have HT := Lib.hid hT
  have HA := Lib.hid hal
  have HACT := Lib.hid h0
  clear hal hT h0
  by_cases he : newE f bad = 0
  · have hnew := fun w => new_ok f bad w hbad he
    have hnc := fun w => newc_ok f w (newE_good he).1
    have HN := Lib.hid (And.intro hnew hnc)
    have HE := Lib.hid he
    clear hnew hnc he
    by_cases hn : 100 < n
    · go_enter Tryd.func4, Tryd.ntmps4
      go_wp2_with (first
        | (go_at_call 6; refine HA.out.mono ?_; unfold alivePost; rintro e w1 ⟨rfl, hb1⟩)
        | (go_at_call 7; refine (HN.out.1 _).mono ?_; rintro e w2 ⟨g, rfl, hS2, hb2⟩)
        | (go_at_call 9; refine (HN.out.2 _).mono ?_; rintro e w3 ⟨c, rfl, hC3, hb3⟩))
      go_ret
      exact ⟨rfl, nxt (nxt hb1 hb2 hb1.size) hb3 (nxt hb1 hb2 hb1.size).size⟩
    · have hn' : decide ((100 : Int) < (n : Int)) = false := by simp; omega
      go_enter Tryd.func4, Tryd.ntmps4
      go_wp2_with (first
        | (go_at_call 6; refine HA.out.mono ?_; unfold alivePost; rintro e w1 ⟨rfl, hb1⟩)
        | (go_at_call 7; refine (HN.out.1 _).mono ?_; rintro e w2 ⟨g, rfl, hS2, hb2⟩)
        | (go_at_call 9; refine (HN.out.2 _).mono ?_; rintro e w3 ⟨c, rfl, hC3, hb3⟩))
      have hO : OneR w c g f bad v 0 0 false (fresh w1 w3) w3 := ⟨[], [], [], 0, (Duo.made hb2 hS2 hC3 hb3).base hb1, by omega, by simp, fun h => by cases h⟩
      have hn100 : n ≤ 100 := by omega
      clear hS2 hb2 hC3 hb3 hb1 hn
      go_loopw [17, 18, 19] (fun a b i wr => ∃ (k : Nat) (who : Int) (sn : Bool) (U : Nat → Prop), a = .int .i64 who ∧ b = .bool sn ∧ i = .int .i64 k ∧ k ≤ n ∧ OneR w c g f bad v (4 * k) who sn U wr) (fun _ _ i _ => n - (intOf i).toNat)
      case atStart => exact ⟨0, 0, false, _, rfl, rfl, rfl, Nat.zero_le _, hO⟩
      case round =>
        obtain ⟨k, who, sn, U, rfl, rfl, rfl, hk, hR⟩ := hrel
        clear hO
        by_cases hlt : k < n
        · obtain ⟨ad, rfl, had, hcell, hfit⟩ := HACT.out k hlt
          obtain ⟨⟨kd, vi, wo, st⟩, ha⟩ : ∃ a, a = D k := ⟨_, rfl⟩
          rw [← ha] at hcell hfit
          obtain ⟨hkd, hvi, hwo, hst⟩ := hfit
          dsimp only at hkd hvi hwo hst
          have hcw : ∀ j u, (actL ⟨kd, vi, wo, st⟩)[j]? = some u → wr.cell? ((ad.add (k * 4)).add j) = some u := fun j u hj => (hR.below.cell (by rw [block_of_add, block_of_add]; exact had)).trans (hcell j u hj)
          have HCW := Lib.hid hcw
          have HR := Lib.hid hR
          clear hcw hcell ha hR
          go_upto_region 12 with (first
            | (refine wpList_cells_at rfl _ _ rfl (ad.add (k * 4)) rfl (actL ⟨kd, vi, wo, st⟩) _ HCW.out Tryd.underlying42 rfl (by kernel_rfl) ?_)
            | (refine wpList_store_new rfl _ _ _ rfl wr (actC ⟨kd, vi, wo, st⟩) rfl rfl _ _ (by kernel_rfl) rfl (by kernel_rfl) ?_))
          refine name_world (fun wa hwa => ?_)
          have hxa : Blk wa wr.heap.size 42 (actC ⟨kd, vi, wo, st⟩) := by rw [hwa]; exact Blk.new _ _ _
          have hba : Below wr.heap.size wr wa := by rw [hwa]; exact (Below.refl _ _).alloc (Nat.le_refl _) _
          obtain ⟨p, hp⟩ : ∃ p, p = wr.heap.size := ⟨_, rfl⟩
          have hUp : ¬ U p := fun h => by have := HR.out.inU _ h; omega
          rw [← hp] at hxa ⊢
          have HRA := Lib.hid (HR.out.keep hba)
          clear hwa hba hp
          have a0 : wa.cell? ⟨p, 0, none⟩ = some (.int .i64 kd) := hxa.cell 0
          have a1 : wa.cell? ⟨p, 1, none⟩ = some (.int .i64 vi) := hxa.cell 1
          have a2 : wa.cell? ⟨p, 2, none⟩ = some (.int .i64 wo) := hxa.cell 2
          have a3 : wa.cell? ⟨p, 3, none⟩ = some (.int .u32 st) := hxa.cell 3
          have hw' : IntKind.i64.wrap (k : Int) = (k : Int) := IntWalk.i64_in _ (by omega)
          go_upto_block 2 with fail
          go_cut [20] from 49 to 130 (fun a wx => a = .pointer (some ⟨p, 0, none⟩) ∧ ∃ V, OneR w c g f bad v (4 * k + 1) who sn V wx)
          case first =>
            have hkk : 4 * k ≤ 1000000000 := by omega
            have H1 := Lib.hid (one_choose HRA.out hkk vi wo)
            have H2 := Lib.hid (one_look HRA.out hkk hbad HT.out vi st hst)
            have H3 := Lib.hid (fun W (hb : Below wa.heap.size wa W) => one_issue (HRA.out.keep hb) hkk ⟨wo, coinS vi⟩ ⟨hwo, coinS_wf hvi⟩)
            rcases kinds kd with h0 | ⟨h0, h1⟩ | ⟨h0, h1, h2⟩ | ⟨h0, h1, h2⟩
            · go_wp2_with (go_at_call 11; refine H1.out.mono ?_; rintro e w4 ⟨⟨r, rfl⟩, hO4, ht4⟩)
              go_meet
              exact ⟨rfl, _, hO4⟩
            · go_wp2_with (go_at_call 13; refine H2.out.mono ?_; rintro e w4 ⟨⟨r, s, rfl⟩, hO4, ht4⟩)
              go_meet
              exact ⟨rfl, _, hO4⟩
            · go_wp2_with fail
              have ne : Nonempty (WorldIn (holdA p ⟨kd, vi, wo, st⟩)) := ⟨⟨wa, hxa⟩⟩
              have p1 : ∀ y : WorldIn (holdA p ⟨kd, vi, wo, st⟩), y.w.cell? ⟨p, 1, none⟩ = some (.int .i64 vi) := fun y => Blk.cell y.h 1
              have p2 : ∀ y : WorldIn (holdA p ⟨kd, vi, wo, st⟩), y.w.cell? ⟨p, 2, none⟩ = some (.int .i64 wo) := fun y => Blk.cell y.h 2
              refine wp_region_K (holdA p ⟨kd, vi, wo, st⟩) [0, 1, 2, 3, 4, 6] (by kernel_rfl) ?_
              refine wpK_quiet (f := 3) (by kernel_rfl) (fun _ x _ _ _ h => by cases x <;> exact h) (show holdA p ⟨kd, vi, wo, st⟩ wa.drew from hxa) [0, 1, 2, 3, 4] _ _ (by kernel_rfl) (by kernel_rfl) (by kernel_rfl) ?_
              conv => arg 5; simp [pick]
              go_big_quiet_step (fail)
              go_big_quiet_step (fail)
              go_big_quiet_step (fail)
              go_big_quiet_step (fail)
              go_big_quiet_step (fail)
              refine wpQuiet_nil ?_
              refine wpK_step 5 (by kernel_rfl) rfl ?_
              go_wp2_with (go_at_call 15; refine (stmt_any vi _).mono ?_; rintro e w5 ⟨rfl, hb5'⟩)
              have hb5 := undrew hb5'
              have hx5 : Blk w5 p 42 (actC ⟨kd, vi, wo, st⟩) := hxa.below hb5 hxa.lt
              refine stepQ.mk ⟨fun _ => hx5, ?_⟩
              refine wpK_quiet (f := 1) (by kernel_rfl) (fun _ x _ _ _ h => by cases x <;> exact h) (show holdA p ⟨kd, vi, wo, st⟩ w5 from hx5) [6] _ _ (by kernel_rfl) (by kernel_rfl) (by kernel_rfl) ?_
              conv => arg 5; simp [pick]
              refine wpQuiet_build rfl _ _ rfl #[(0, .int .i64 wo), (1, .agg (stmC (coinS vi)))] rfl (build_shr _ (coinS vi)) ?_
              conv => arg 6; simp only [Act.put, List.setIfInBounds_toArray, List.set_cons_zero, List.set_cons_succ]
              refine wpQuiet_nil ?_
              refine wpK_step 7 (by kernel_rfl) rfl ?_
              go_wp2_with (go_at_call 16; refine (H3.out _ hb5).mono ?_; rintro e w6 ⟨⟨r, rfl⟩, hO6, ht6⟩)
              refine stepQ.mk ⟨fun _ => ?hold, ?_⟩
              case hold => exact ht6.blk hx5 hUp
              refine wpK_seq [] _ _ _ (by kernel_rfl) ?_
              conv => arg 4; simp [pick]
              go_wp2
              go_meet
              exact ⟨rfl, _, hO6⟩
            · go_wp2_with fail
              go_meet
              exact ⟨rfl, _, HRA.out.le (by omega)⟩
          case rest =>
            obtain ⟨rfl, V, hO⟩ := hcut
            go_upto_region 20 with (first
              | (refine wpList_buildSlice rfl _ _ _ rfl #[(0, .int .u32 (x : Int)), (1, .int .u32 (y : Int))] rfl (slice_two x y wc) ?_)
              | fail)
            have hOb : OneR w c g f bad v (4 * k + 1) who sn V (wc.alloc (.cells #[.int .u32 (x : Int), .int .u32 (y : Int)] 22)) := hO.keep ((Below.refl _ _).alloc (Nat.le_refl _) _)
            have hbb : Blk (wc.alloc (.cells #[.int .u32 (x : Int), .int .u32 (y : Int)] 22)) wc.heap.size 22 #[.int .u32 (x : Int), .int .u32 (y : Int)] := Blk.new _ _ _
            obtain ⟨B, hB⟩ : ∃ B, B = wc.heap.size := ⟨_, rfl⟩
            have hVB : ¬ V B := fun h => by have := hO.inU _ h; omega
            rw [← hB] at hbb
            rw [← hB]
            clear hB
            go_loopw [17, 18, 92] (fun a b i wr => ∃ (t : Nat) (who2 : Int) (sn2 : Bool) (V2 : Nat → Prop), a = .int .i64 who2 ∧ b = .bool sn2 ∧ i = .int .i64 t ∧ t ≤ 2 ∧ OneR w c g f bad v (4 * k + 1 + t) who2 sn2 V2 wr ∧ Blk wr B 22 #[.int .u32 (x : Int), .int .u32 (y : Int)] ∧ ¬ V2 B) (fun _ _ i _ => 2 - (intOf i).toNat)
            case atStart => exact ⟨0, who, sn, V, rfl, rfl, rfl, by omega, hOb, hbb, hVB⟩
            case round =>
              obtain ⟨t, who2, sn2, V2, rfl, rfl, rfl, ht, hO2, hb2, hV2⟩ := hrel
              have c0 : wr.cell? ⟨B, 0, none⟩ = some (.int .u32 (x : Int)) := hb2.cell 0
              have c1 : wr.cell? ⟨B, 1, none⟩ = some (.int .u32 (y : Int)) := hb2.cell 1
              match t, ht with
              | 0, _ =>
                have hB1 : 4 * k + 1 + 0 ≤ 1000000000 := by omega
                obtain ⟨q, r, hsee, hfacts⟩ := one_see hO2 hB1 HE.out hbad HT.out x hx
                obtain ⟨mo, hmo⟩ : ∃ mo, mo = more 3 f := ⟨_, rfl⟩
                have hall := all_any f
                rw [← hmo] at hfacts
                simp only [← hmo] at hall
                have HMO := Lib.hid hall
                clear hall hmo
                by_cases hr : r = 0
                · subst hr
                  rw [if_pos rfl, if_pos rfl] at hsee
                  obtain ⟨hq0, hq1, hcn, hqw⟩ := hfacts rfl
                  have hq0' : decide (q < 0) = false := by simp; omega
                  have hq1' : decide (mo ≤ q) = false := by simp; omega
                  have hcnt := fun w => count_any (x &&& (4294967295 - bad)) w (Nat.lt_of_le_of_lt Nat.and_le_left hx)
                  have hand := u32_andNot_nat x bad hx hbad
                  obtain ⟨zz, hzz⟩ : ∃ zz, zz = x &&& (4294967295 - bad) := ⟨_, rfl⟩
                  rw [← hzz] at hcn hand
                  simp only [← hzz] at hcnt
                  obtain ⟨cn, hcne⟩ : ∃ cn, cn = cnt zz := ⟨_, rfl⟩
                  rw [← hcne] at hcn
                  simp only [← hcne] at hcnt
                  have hcn' : ((cn : Int) == 0) = false := by simp; omega
                  have HS := Lib.hid hsee
                  have HC := Lib.hid hcnt
                  clear hsee hcnt hzz hcne hfacts hcn
                  cases sn2 with
                  | false =>
                    clear hqw
                    go_wp2_with (first
                      | (go_at_call 13; refine HS.out.mono ?_; rintro e w5 ⟨rfl, hO5, ht5⟩)
                      | (go_at_call 20; refine (HC.out _).mono ?_; rintro e w6 ⟨rfl, rfl⟩)
                      | (go_at_call 21; refine (HMO.out _).mono ?_; rintro e w6 ⟨rfl, rfl⟩))
                    go_roundw
                    case rel => exact ⟨0 + 1, q, true, _, rfl, rfl, by go_num, by omega, hO5, ht5.blk hb2 hV2, spare_more hV2 hb2.lt⟩
                    case measure => simp [intOf]
                  | true =>
                    obtain rfl := hqw rfl
                    have hqq : (q != q) = false := by simp
                    clear hqw
                    go_wp2_with (first
                      | (go_at_call 13; refine HS.out.mono ?_; rintro e w5 ⟨rfl, hO5, ht5⟩)
                      | (go_at_call 20; refine (HC.out _).mono ?_; rintro e w6 ⟨rfl, rfl⟩)
                      | (go_at_call 21; refine (HMO.out _).mono ?_; rintro e w6 ⟨rfl, rfl⟩))
                    go_roundw
                    case rel => exact ⟨0 + 1, q, true, _, rfl, rfl, by go_num, by omega, hO5, ht5.blk hb2 hV2, spare_more hV2 hb2.lt⟩
                    case measure => simp [intOf]
                · rw [if_neg hr, if_neg hr] at hsee
                  have hr0 : (r == 0) = false := by simpa using hr
                  have hr1 : (r != 0) = true := by simpa using hr
                  have HS := Lib.hid hsee
                  clear hsee hfacts hr
                  go_wp2_with (first
                    | (go_at_call 13; refine HS.out.mono ?_; rintro e w5 ⟨rfl, hO5, ht5⟩)
                    | fail)
                  go_roundw
                  case rel => exact ⟨0 + 1, who2, sn2, _, rfl, rfl, by go_num, by omega, hO5, ht5.blk hb2 hV2, spare_more hV2 hb2.lt⟩
                  case measure => simp [intOf]
              | 1, _ =>
                have hB1 : 4 * k + 1 + 1 ≤ 1000000000 := by omega
                obtain ⟨q, r, hsee, hfacts⟩ := one_see hO2 hB1 HE.out hbad HT.out y hy
                obtain ⟨mo, hmo⟩ : ∃ mo, mo = more 3 f := ⟨_, rfl⟩
                have hall := all_any f
                rw [← hmo] at hfacts
                simp only [← hmo] at hall
                have HMO := Lib.hid hall
                clear hall hmo
                by_cases hr : r = 0
                · subst hr
                  rw [if_pos rfl, if_pos rfl] at hsee
                  obtain ⟨hq0, hq1, hcn, hqw⟩ := hfacts rfl
                  have hq0' : decide (q < 0) = false := by simp; omega
                  have hq1' : decide (mo ≤ q) = false := by simp; omega
                  have hcnt := fun w => count_any (y &&& (4294967295 - bad)) w (Nat.lt_of_le_of_lt Nat.and_le_left hy)
                  have hand := u32_andNot_nat y bad hy hbad
                  obtain ⟨zz, hzz⟩ : ∃ zz, zz = y &&& (4294967295 - bad) := ⟨_, rfl⟩
                  rw [← hzz] at hcn hand
                  simp only [← hzz] at hcnt
                  obtain ⟨cn, hcne⟩ : ∃ cn, cn = cnt zz := ⟨_, rfl⟩
                  rw [← hcne] at hcn
                  simp only [← hcne] at hcnt
                  have hcn' : ((cn : Int) == 0) = false := by simp; omega
                  have HS := Lib.hid hsee
                  have HC := Lib.hid hcnt
                  clear hsee hcnt hzz hcne hfacts hcn
                  cases sn2 with
                  | false =>
                    clear hqw
                    go_wp2_with (first
                      | (go_at_call 13; refine HS.out.mono ?_; rintro e w5 ⟨rfl, hO5, ht5⟩)
                      | (go_at_call 20; refine (HC.out _).mono ?_; rintro e w6 ⟨rfl, rfl⟩)
                      | (go_at_call 21; refine (HMO.out _).mono ?_; rintro e w6 ⟨rfl, rfl⟩))
                    go_roundw
                    case rel => exact ⟨1 + 1, q, true, _, rfl, rfl, by go_num, by omega, hO5, ht5.blk hb2 hV2, spare_more hV2 hb2.lt⟩
                    case measure => simp [intOf]
                  | true =>
                    obtain rfl := hqw rfl
                    have hqq : (q != q) = false := by simp
                    clear hqw
                    go_wp2_with (first
                      | (go_at_call 13; refine HS.out.mono ?_; rintro e w5 ⟨rfl, hO5, ht5⟩)
                      | (go_at_call 20; refine (HC.out _).mono ?_; rintro e w6 ⟨rfl, rfl⟩)
                      | (go_at_call 21; refine (HMO.out _).mono ?_; rintro e w6 ⟨rfl, rfl⟩))
                    go_roundw
                    case rel => exact ⟨1 + 1, q, true, _, rfl, rfl, by go_num, by omega, hO5, ht5.blk hb2 hV2, spare_more hV2 hb2.lt⟩
                    case measure => simp [intOf]
                · rw [if_neg hr, if_neg hr] at hsee
                  have hr0 : (r == 0) = false := by simpa using hr
                  have hr1 : (r != 0) = true := by simpa using hr
                  have HS := Lib.hid hsee
                  clear hsee hfacts hr
                  go_wp2_with (first
                    | (go_at_call 13; refine HS.out.mono ?_; rintro e w5 ⟨rfl, hO5, ht5⟩)
                    | fail)
                  go_roundw
                  case rel => exact ⟨1 + 1, who2, sn2, _, rfl, rfl, by go_num, by omega, hO5, ht5.blk hb2 hV2, spare_more hV2 hb2.lt⟩
                  case measure => simp [intOf]
              | 2, _ =>
                go_wp2_with fail
                go_roundw
                case rel => exact ⟨k + 1, who2, sn2, V2, rfl, rfl, by go_num, by omega, hO2.le (by omega)⟩
                case measure => simp [intOf]; omega
        · go_wp2_with fail
          go_ret
          exact ⟨rfl, hR.below⟩
  · have hnew := fun w => new_not f bad w hbad he
    obtain ⟨e, hq⟩ : ∃ e, e = newE f bad := ⟨_, rfl⟩
    rw [← hq] at he
    simp only [← hq] at hnew
    have h0' : (e == 0) = false := by simpa using he
    have h1' : (e != 0) = true := by simpa using he
    have HN := Lib.hid hnew
    clear hnew he hq
    rcases Bool.eq_false_or_eq_true (isF f) with hi | hi
    · have HI := Lib.hid hi
      clear hi
      go_enter Tryd.func4, Tryd.ntmps4
      go_wp2_with (first
        | (go_at_call 6; refine HA.out.mono ?_; unfold alivePost; rintro e w1 ⟨rfl, hb1⟩)
        | (go_at_call 7; refine (HN.out _).mono ?_; rintro e w2 ⟨rfl, rfl⟩)
        | (go_at_call 9; refine (newc_ok f _ HI.out).mono ?_; rintro e w3 ⟨c, rfl, hC3, hb3⟩))
      go_ret
      exact ⟨rfl, nxt hb1 hb3 hb1.size⟩
    · have HI := Lib.hid hi
      clear hi
      go_enter Tryd.func4, Tryd.ntmps4
      go_wp2_with (first
        | (go_at_call 6; refine HA.out.mono ?_; unfold alivePost; rintro e w1 ⟨rfl, hb1⟩)
        | (go_at_call 7; refine (HN.out _).mono ?_; rintro e w2 ⟨rfl, rfl⟩)
        | (go_at_call 9; refine (newc_not f _ HI.out).mono ?_; rintro e w3 ⟨rfl, rfl⟩))
      go_ret
      exact ⟨rfl, hb1⟩
end Go.Proofs.YtjkfogjhakcnfaaDoor
