/-
  The document's tree, pruned: walked to what stays.
-/
import Derived.Test.YtgclofemhhhepaaRefCn
set_option linter.unusedSimpArgs false
set_option linter.unusedVariables false
set_option maxRecDepth 10000
namespace Go.Proofs.Ytgclofemhhhepaa
open Go.RowKit Go.Maps Go.Lib
open L3 (Blk Reads block_of_add add_of_add)
open L6 (Turn moreB fresh From In)

theorem box_of (w : World) (y : Ent) : Blk (w.alloc (.cells (enC y) 68)) w.heap.size 68 (enC y) := Blk.new _ _ _
theorem flat_one {L : List Ent} {y : Ent} : (L ++ [y]).length = L.length + 1 ∧ (L ++ [y]).flatMap enL = L.flatMap enL ++ enL y := ⟨by simp, by simp⟩
set_option maxHeartbeats 4000000 in
set_option maxRecDepth 100000 in
theorem rprune_ok (m r rd : Int) (A : Option Addr) (c : Nat) (L : List Ent) (n : Int) (w : World) (h1 : OneN r L) (h0 : InOk r L) (hl : L.length ≤ 1000000) (hr : Rd enL 16 w A L) (hn : n ≠ r) (hh : Hang r L n) :
    Calls Try.prog 12 #[.agg (rtC m r rd A L.length c), .int .i64 n] w (RTPost A ⟨m, n, ((atV L n).getD zeroEn).b.rd, cutP r L n ((atV L n).getD zeroEn).b.rd⟩ 0 w) := by
  obtain ⟨i0, hi, hz0, hz1, hz2⟩ := info_parts enInfo3
  have HR := Lib.hid hr
  obtain ⟨ln, hln⟩ := hang_path hh
  have HP0 := Lib.hid (fun W (hb : Below w.heap.size w W) => rpath_ok m r rd A c L h1 h0 hl hln W (hr.below hb))
  have HP := Lib.hid (fun W (hb : Below w.heap.size w W) (y : Ent) l (hp : PathIs r L y.n l) => rpath_ok m r rd A c L h1 h0 hl hp W (hr.below hb))
  have HPT := Lib.hid (fun (y : Ent) (hy : y ∈ L) (hi : y.isin = true) => hang_path ((h0 y hy).1 hi))
  have HPL := Lib.hid (fun (y : Ent) l (hp : PathIs r L y.n l) => path_len h1 hp)
  have HA := Lib.hid (fun W (hb : Below w.heap.size w W) => rat_any m r rd A c L n W (hr.below hb) hl)
  obtain ⟨e, he, hen⟩ : ∃ e, atV L n = some e ∧ e.n = n := by
    have hv := (has_hang h0).2 hh
    rcases hv with hv | ⟨e, he, hen, _⟩
    · exact absurd hv hn
    · exact ⟨e, (atV_some h1.1).2 ⟨he, hen⟩, hen⟩
  rw [he] at HA ⊢
  obtain ⟨x, hx⟩ : ∃ x, x = e := ⟨_, rfl⟩
  rw [← hx] at HA ⊢
  have HSO := Lib.hid (fun (y : Ent) (hi : y.isin = false) => stay_out (r := r) (L := L) (n := n) (rd := x.b.rd) hi)
  have HSS := Lib.hid (fun (y : Ent) (hi : y.isin = true) (hyn : y.n = n) => stay_self (r := r) (L := L) (n := n) (rd := x.b.rd) h1 hi hyn)
  have HSI := Lib.hid (fun (y : Ent) l (hi : y.isin = true) (hp : PathIs r L y.n l) (hyn : y.n ≠ n) => stay_in (r := r) (L := L) (n := n) (rd := x.b.rd) h1 hi hp hyn hn)
  show Calls Try.prog 12 #[.agg (rtC m r rd A L.length c), .int .i64 n] w (RTPost A ⟨m, n, x.b.rd, cutP r L n x.b.rd⟩ 0 w)
  replace HA : Hid (∀ W, Below w.heap.size w W → Calls Try.prog 22 #[.agg (rtC m r rd A L.length c), .int .i64 n] W (gives (.tuple #[.agg (enC x), .bool true]) W)) := HA
  obtain ⟨z, hz⟩ : ∃ z, z = L.length := ⟨_, rfl⟩
  rw [← hz] at HA HP0 HP HPL hl ⊢
  have HZ := Lib.hid hz
  have hnr : (n == r) = false := by simpa using hn
  obtain ⟨pP, hpP⟩ : ∃ pP, pP = stayP r L n x.b.rd := ⟨_, rfl⟩
  have HCUT := Lib.hid (show cutP r L n x.b.rd = L.filter pP by rw [hpP]; rfl)
  rw [← hpP] at HSO HSS HSI
  obtain ⟨k0, k1, hb0⟩ := boxes2 w m r rd A z c
  obtain ⟨W0, hW0⟩ : ∃ W0, W0 = (w.alloc (.cells (rtC m r rd A z c) 30)).alloc (.cells (rtC 0 0 0 none 0 0) 30) := ⟨_, rfl⟩
  rw [← hW0] at k0 k1 hb0
  have hE : (w.alloc (.cells (rtC m r rd A z c) 30)).alloc (.cells #[.int .i64 0, .int .i64 0, .int .i64 0, .slice none 0 0] 30) = W0 := hW0.symm
  have c1 : W0.cell? ⟨w.heap.size, 1, none⟩ = some (.int .i64 r) := k0.cell 1
  have H0 := Lib.hid (HP0.out W0 hb0)
  clear hr h1 h0 hh hln he hen hx hz hpP hW0 HP0 hn
  go_enter Try.func12, Try.ntmps12
  go_upto_region 1 with fail
  clear hE
  go_upto_region 3 with fail
  clear c1
  go_upto_region 6 with (first
    | (refine wpList_row_at rfl _ _ rfl w.heap.size rfl _ _ _ _ k0 Try.underlying30 rfl rtInfo ?_)
    | (go_at_call 28; refine H0.out.mono ?_; unfold RPathPost; rintro e2 w2 ⟨v2, rfl, hown2, hb2⟩)
    | go_in)
  have k2 := k0.below hb2 k0.lt
  have k3 := k1.below hb2 k1.lt
  have hbz := nxt hb0 hb2
  have H2 := Lib.hid (HA.out w2 hbz)
  clear k0 k1 hb2 hb0 hown2 H0
  go_upto_region 7 with (first
    | (refine wpList_row_at rfl _ _ rfl w.heap.size rfl _ _ _ _ k2 Try.underlying30 rfl rtInfo ?_)
    | (go_at_call 22; refine H2.out.mono ?_; unfold gives; rintro e3 w3 ⟨rfl, hb3⟩)
    | (refine wpList_store_new rfl _ _ _ rfl w3 (enC x) rfl rfl 68 _ enInfo rfl (enC_ones _) ?_)
    | go_in)
  have hb4 := nxt hb3 (below_new w3 (.cells (enC x) 68))
  have kx : Blk (w3.alloc (.cells (enC x) 68)) w3.heap.size 68 (enC x) := Blk.new _ _ _
  obtain ⟨W1, hW1⟩ : ∃ W1, W1 = w3.alloc (.cells (enC x) 68) := ⟨_, rfl⟩
  rw [← hW1] at hb4 kx
  rw [← hW1]
  have kt := k2.below hb4 k2.lt
  have ka := k3.below hb4 k3.lt
  have hbw1 := nxt hbz hb4
  clear hW1 k2 k3 hb3 hb4 hbz H2
  obtain ⟨gx, hgx⟩ : ∃ gx, gx = w3.heap.size := ⟨_, rfl⟩
  rw [← hgx] at kx
  rw [← hgx]
  have hgx1 := kx.lt
  clear hgx
  go_wp2
  go_loopw [10, 11] (fun lv i wr => ∃ k : Nat, i = .int .i64 k ∧ k ≤ z ∧ wr.ownsRow W1.heap.size 68 16 lv ((L.take k).filter pP).length (((L.take k).filter pP).flatMap enL) ∧ Below W1.heap.size W1 wr) (fun _ i _ => z - (RowKit.intOf i).toNat)
  case atStart => exact ⟨0, rfl, Nat.zero_le _, ⟨by simp, .inl ⟨rfl, by simp⟩⟩, Below.refl _ _⟩
  case round =>
    obtain ⟨lv, hlv⟩ : ∃ lv, lv = u10 := ⟨_, rfl⟩
    subst hlv
    obtain ⟨k, rfl, hk, hrow, hbw⟩ := hrel
    have hbw2 := nxt hbw1 hbw
    have ktr := kt.below hbw kt.lt
    have kar := ka.below hbw ka.lt
    have kxr := kx.below hbw kx.lt
    have ct : wr.cell? ⟨w.heap.size, 3, none⟩ = some (.slice A z c) := ktr.cell 3
    have HOB := Lib.hid (fun j hj => (hrow.lt j hj).1)
    have hszr := hbw.size
    by_cases hlt : k < z
    · have hkL : k < L.length := by have := HZ.out; omega
      obtain ⟨ad, rfl, hadl, c0, c6, c15, hcs⟩ := (HR.out.below hbw2).entry hkL
      have HSN := Lib.hid (stay_snoc (p := pP) hkL)
      have hFl := List.length_filter_le pP (L.take k)
      rw [List.length_take] at hFl
      have HYL := Lib.hid (List.getElem_mem hkL)
      obtain ⟨y, hye⟩ : ∃ y, y = L[k] := ⟨_, rfl⟩
      rw [← hye] at hcs HSN HYL
      have hcs1 : ∀ j u, (enL y)[j]? = some u → wr.cell? ((ad.add (k * 16)).add j) = some u := hcs
      obtain ⟨F, hF⟩ : ∃ F, F = (L.take k).filter pP := ⟨_, rfl⟩
      rw [← hF] at hrow HSN hFl
      have hFl2 : F.length ≤ 1000000 := by omega
      clear hye c0 c6 c15 hcs hkL hF hFl
      go_upto_region 12 with (first
        | (refine wpList_cells_at rfl _ _ rfl (ad.add (k * 16)) rfl (enL y) _ hcs1 Try.underlying68 rfl enInfo ?_)
        | (refine wpList_store_new rfl _ _ _ rfl wr (enC y) rfl rfl 68 _ enInfo rfl (enC_ones _) ?_)
        | go_in)
      have hb4 := nxt hbw (below_new wr (.cells (enC y) 68))
      have hbn4 := below_new wr (.cells (enC y) 68)
      have ky : Blk (wr.alloc (.cells (enC y) 68)) wr.heap.size 68 (enC y) := Blk.new _ _ _
      have hr4 := hrow.alloc (.cells (enC y) 68)
      obtain ⟨w4, hw4⟩ : ∃ w4, w4 = wr.alloc (.cells (enC y) 68) := ⟨_, rfl⟩
      rw [← hw4] at hb4 hbn4 ky hr4
      rw [← hw4]
      have kt4 := ktr.below hbn4 ktr.lt
      have ka4 := kar.below hbn4 kar.lt
      have kx4 := kxr.below hbn4 kxr.lt
      have hsz4 := hbn4.size
      obtain ⟨gy, hgy⟩ : ∃ gy, gy = wr.heap.size := ⟨_, rfl⟩
      rw [← hgy] at ky
      rw [← hgy]
      have y0 : w4.cell? ⟨gy, 0, none⟩ = some (.int .i64 y.n) := ky.cell 0
      have y2 : w4.cell? ⟨gy, 2, none⟩ = some (.int .i64 y.b.rd) := ky.cell 2
      have x2 : w4.cell? ⟨gx, 2, none⟩ = some (.int .i64 x.b.rd) := kx4.cell 2
      clear ct hrow hcs1 hw4 ktr kar kxr hbn4 hgy
      obtain ⟨bi, hbi⟩ : ∃ bi, bi = y.isin := ⟨_, rfl⟩
      have y15 : w4.cell? ⟨gy, 15, none⟩ = some (.bool bi) := by rw [hbi]; exact ky.cell 15
      cases bi with
      | false =>
        have hst := HSO.out y hbi.symm
        by_cases hrd : x.b.rd < y.b.rd
        · have HST : Hid (pP y = true) := Lib.hid (hst.trans (decide_eq_true hrd))
          have hgt : y.b.rd > x.b.rd := hrd
          clear hst hbi hrd
          go_upto_region 20 with fail
          clear y0 y2 x2 y15
          go_wp2_with (first
            | (refine wpList_row_at rfl _ _ rfl gy rfl _ _ _ _ ky Try.underlying68 rfl enInfo ?_)
            | (refine wpList_buildSlice rfl _ _ _ rfl #[(0, .agg (enC y))] rfl (slice_en y _) ?_)
            | (at_builtin; refine L3.wpList_append_any _ rfl (.tmp 93) (.tmp 95) 28 rfl W1.heap.size 68 i0 _ 16 152 Try.underlying28 hi hz0 hz1 hz2 rfl (by decide) lv F.length (F.flatMap enL) rfl (hr4.alloc _) (w4.heap.size + 1) (some ⟨w4.heap.size, 0, none⟩) 1 1 (enL y) rfl (reads_one (k := 16) rfl (box_of w4 y)) (one_enL y) (by unfold maxLen; omega) (by omega) (by simp; omega) ?_
               intro v8 w8 hr8 hg8 hat3)
            | go_in)
          go_roundw
          case rel => exact ⟨k + 1, by go_num, by omega, by rw [HSN.out.1 HST.out, flat_one.1, flat_one.2]; exact hr8, (hb4.alloc hb4.size _).grown hg8 (by simp; omega) HOB.out⟩
          case measure => simp [RowKit.intOf]; omega
        · have HST : Hid (pP y = false) := Lib.hid (hst.trans (decide_eq_false hrd))
          clear hst hbi
          go_wp2
          go_roundw
          case rel => exact ⟨k + 1, by go_num, by omega, by rw [HSN.out.2 HST.out]; exact hr4, hb4⟩
          case measure => simp [RowKit.intOf]; omega
      | true =>
        by_cases hyn : y.n = n
        · have hq : (y.n != n) = false := by simpa using hyn
          have HST : Hid (pP y = false) := Lib.hid (HSS.out y hbi.symm hyn)
          clear hbi hyn
          go_wp2
          go_roundw
          case rel => exact ⟨k + 1, by go_num, by omega, by rw [HSN.out.2 HST.out]; exact hr4, hb4⟩
          case measure => simp [RowKit.intOf]; omega
        · have hq : (y.n != n) = true := by simpa using hyn
          obtain ⟨l, hpl⟩ := HPT.out y HYL.out hbi.symm
          have HST := Lib.hid (HSI.out y l hbi.symm hpl hyn)
          have hll := HPL.out y l hpl
          have H4 := Lib.hid (HP.out w4 (nxt hbw1 hb4) y l hpl)
          clear hbi hyn hpl
          go_upto_region 14 with fail
          clear y2 x2 y15
          go_upto_region 15 with (first
            | (refine wpList_row_at rfl _ _ rfl w.heap.size rfl _ _ _ _ kt4 Try.underlying30 rfl rtInfo ?_)
            | (go_at_call 28; refine H4.out.mono ?_; unfold RPathPost; rintro e5 w5 ⟨v5, rfl, hown5, hb5⟩)
            | go_in)
          have hbw5 := nxt hb4 hb5
          have hr5 := row_below hr4 hb5
          have ky5 := ky.below hb5 ky.lt
          obtain ⟨Al, cl, rfl, hcl, hrd5⟩ := OwnI.see hown5
          obtain ⟨nl, hnl⟩ : ∃ nl, nl = l.length := ⟨_, rfl⟩
          rw [← hnl] at hcl hrd5 hll ⊢
          have HNL := Lib.hid hnl
          have HRD := Lib.hid hrd5
          have hsz5 := hb5.size
          clear hown5 hrd5 hnl hr4 hb5 ky y0 kt4 H4
          go_wp2
          go_loopw [13, 16] (fun bv iv wi => ∃ (q : Nat) (b : Bool), iv = .int .i64 q ∧ bv = .bool b ∧ q ≤ nl ∧ Hid (b = decide (n ∈ l.take q)) ∧ Below w5.heap.size w5 wi) (fun _ iv _ => nl - (RowKit.intOf iv).toNat)
          case atStart => exact ⟨0, false, rfl, rfl, Nat.zero_le _, Lib.hid (by simp), Below.refl _ _⟩
          case round =>
            obtain ⟨q, b, rfl, rfl, hq2, hb, hbi⟩ := hrel
            by_cases hql : q < nl
            · have hqF : q < l.length := by have := HNL.out; omega
              obtain ⟨a1, q1, rfl, hb1, e1, f1⟩ := (HRD.out.below hbi).at_ hql
              have g1 : q1 = .int .i64 l[q] := by rw [List.getElem?_map, List.getElem?_eq_getElem hqF] at e1; exact (Option.some.inj e1).symm
              have hts := take_snoc hqF
              obtain ⟨v, hv⟩ : ∃ v, v = l[q] := ⟨_, rfl⟩
              rw [← hv] at g1 hts
              subst g1
              have hdm : decide (n ∈ l.take (q + 1)) = (b || decide (v = n)) := by rw [hts, decide_mem_snoc, hb.out]
              have HDM := Lib.hid hdm
              clear e1 hv hqF hts hdm hb
              cases b with
              | true =>
                go_wp2
                go_roundw
                case rel => exact ⟨q + 1, true, by go_num, rfl, by omega, Lib.hid HDM.out.symm, hbi⟩
                case measure => simp [RowKit.intOf]; omega
              | false =>
                by_cases hvn : v = n
                · have hvq : (v == n) = true := by simpa using hvn
                  have HD2 := Lib.hid (HDM.out.trans (by rw [decide_eq_true hvn]))
                  clear hvn HDM
                  go_wp2
                  go_roundw
                  case rel => exact ⟨q + 1, true, by go_num, rfl, by omega, Lib.hid HD2.out.symm, hbi⟩
                  case measure => simp [RowKit.intOf]; omega
                · have hvq : (v == n) = false := by simpa using hvn
                  have HD2 := Lib.hid (HDM.out.trans (by rw [decide_eq_false hvn]))
                  clear hvn HDM
                  go_wp2
                  go_roundw
                  case rel => exact ⟨q + 1, false, by go_num, rfl, by omega, Lib.hid HD2.out.symm, hbi⟩
                  case measure => simp [RowKit.intOf]; omega
            · obtain rfl : q = nl := by omega
              have hb2 : b = decide (n ∈ l) := by have := hb.out; rwa [HNL.out, List.take_length] at this
              have HST2 := Lib.hid (HST.out.trans hb2.symm)
              have hbwi := nxt hbw5 hbi
              have hri := row_below hr5 hbi
              have kyi := ky5.below hbi ky5.lt
              have hszi := hbi.size
              obtain ⟨wi, hwi⟩ : ∃ wi, wi = wr := ⟨_, rfl⟩
              subst hwi
              clear hb2 hb HST hr5 ky5 hbw5 hbi
              cases b with
              | true =>
                have HS := Lib.hid (HST2.out)
                go_upto_region 20 with fail
                go_wp2_with (first
                  | (refine wpList_row_at rfl _ _ rfl gy rfl _ _ _ _ kyi Try.underlying68 rfl enInfo ?_)
                  | (refine wpList_buildSlice rfl _ _ _ rfl #[(0, .agg (enC y))] rfl (slice_en y _) ?_)
                  | (at_builtin; refine L3.wpList_append_any _ rfl (.tmp 93) (.tmp 95) 28 rfl W1.heap.size 68 i0 _ 16 152 Try.underlying28 hi hz0 hz1 hz2 rfl (by decide) lv F.length (F.flatMap enL) rfl (hri.alloc _) (wi.heap.size + 1) (some ⟨wi.heap.size, 0, none⟩) 1 1 (enL y) rfl (reads_one (k := 16) rfl (box_of wi y)) (one_enL y) (by unfold maxLen; omega) (by omega) (by simp; omega) ?_
                     intro v8 w8 hr8 hg8 hat3)
                  | go_in)
                go_roundw
                case rel => exact ⟨k + 1, by go_num, by omega, by rw [HSN.out.1 HS.out, flat_one.1, flat_one.2]; exact hr8, (hbwi.alloc hbwi.size _).grown hg8 (by simp; omega) HOB.out⟩
                case measure => simp [RowKit.intOf]; omega
              | false =>
                have HS := Lib.hid (HST2.out)
                go_wp2
                go_roundw
                case rel => exact ⟨k + 1, by go_num, by omega, by rw [HSN.out.2 HS.out]; exact hri, hbwi⟩
                case measure => simp [RowKit.intOf]; omega
    · obtain rfl : k = z := by omega
      have HT : Hid (L.take k = L) := Lib.hid (by rw [HZ.out, List.take_length])
      rw [HT.out] at hrow
      obtain ⟨Q, cq, rfl, _⟩ := L6.row_reads hrow
      have HRW := Lib.hid hrow
      obtain ⟨q, hq⟩ : ∃ q, q = (L.filter pP).length := ⟨_, rfl⟩
      have HQ := Lib.hid hq
      have t0 : wr.cell? ⟨w.heap.size, 0, none⟩ = some (.int .i64 m) := ktr.cell 0
      have x2 : wr.cell? ⟨gx, 2, none⟩ = some (.int .i64 x.b.rd) := kxr.cell 2
      rw [← hq]
      clear hq hrow ktr kxr
      go_wp2_with (first
        | (refine wpList_build rfl _ _ rfl #[(0, .int .i64 m), (1, .int .i64 n), (2, .int .i64 x.b.rd), (3, .slice Q q cq)] rfl (build_rt m n x.b.rd Q q cq wr) ?_)
        | (refine wpList_store_row rfl _ _ _ rfl (w.heap.size + 1) (rtC m n x.b.rd Q q cq) rfl rfl _ _ kar rtInfo rfl (rtC_ones _ _ _ _ _ _) ?_)
        | go_in)
      (try simp only [Exit.inBlock, Exit.then])
      refine bodyPost_ret (results_row2 rfl _ _ (w.heap.size + 1) rfl _ rfl _ (rtC m n x.b.rd Q q cq) _ _ (blk_setRow kar) Try.underlying30 rfl rtInfo) rfl ?_
      have hd := HRW.out
      rw [← HQ.out] at hd
      rw [HCUT.out]
      refine rt_new (M := ⟨m, n, x.b.rd, L.filter pP⟩) HQ.out ?_ hbw2 (Nat.le_succ _) (by have := hgx1; have := ka.lt; omega)
      show wr.ownsRow W1.heap.size 68 16 (.slice Q q cq) (L.filter pP).length _
      rw [← HQ.out]; exact hd
end Go.Proofs.Ytgclofemhhhepaa
