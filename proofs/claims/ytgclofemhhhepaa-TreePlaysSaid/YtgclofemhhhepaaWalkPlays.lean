/-
  What any calls do is the document's answer: walked.
-/
import Derived.Test.YtgclofemhhhepaaPlayAt
set_option linter.unusedSimpArgs false
set_option linter.unusedVariables false
set_option maxRecDepth 10000
namespace Go.Proofs.Ytgclofemhhhepaa
open Go.RowKit Go.Maps Go.Lib
open L3 (Blk Reads block_of_add add_of_add)
open L6 (Turn moreB fresh From In)

set_option maxHeartbeats 4000000 in
set_option maxRecDepth 100000 in
theorem plays_walk (most : Int) (A0 : Option Addr) (n0 c0 : Nat) (D : Nat → Actx) (look : Int) (w : World) (hmost : inI most) (hx : Acts w A0 n0 D) (hm : n0 ≤ maxLen) (hlook : inI look) :
    Calls Try.prog 3 #[.int .i64 most, .slice A0 n0 c0, .int .i64 look] w fun e w' => e = .returned (.bool true) ∧ Below w.heap.size w w' := by
  have HAL := Lib.hid (alive_any w)
  by_cases hbig : 60 < n0
  · have hb1 : (n0 : Int) > 60 := by omega
    clear hx hmost hlook hm
    go_enter Try.func3, Try.ntmps3
    go_wp2_with (first
      | (go_at_call 7; refine HAL.out.mono ?_; unfold gives; rintro e w1 ⟨rfl, hb1⟩)
      | go_in)
    go_ret
    exact ⟨rfl, hb1⟩
  · have hn60 : n0 ≤ 60 := by omega
    have HX := Lib.hid hx
    clear hx hm hbig
    by_cases hbad : most < 1 ∨ 256 < most
    · have HN := Lib.hid (fun W => new_no most W hbad)
      have hgt : ¬ (n0 : Int) > 60 := by omega
      go_enter Try.func3, Try.ntmps3
      go_upto_region 6 with (first
        | (go_at_call 7; refine HAL.out.mono ?_; unfold gives; rintro e w1 ⟨rfl, hb1⟩)
        | (go_at_call 8; refine (HN.out _).mono ?_; unfold gives; rintro e w2 ⟨rfl, hb2⟩)
        | go_in)
      have hbz := nxt hb1 hb2
      clear hb1 hb2 HX hn60 hgt
      rcases hbad with hbad | hbad
      · go_wp2
        go_ret
        exact ⟨rfl, hbz⟩
      · by_cases h1 : most < 1
        · omega
        · have h2 : most > 256 := hbad
          go_wp2
          go_ret
          exact ⟨rfl, hbz⟩
    · have hm1 : 1 ≤ most := by omega
      have hm2 : most ≤ 256 := by omega
      have h1 : ¬ most < 1 := by omega
      have h2 : ¬ most > 256 := by omega
      have hgt : ¬ (n0 : Int) > 60 := by omega
      have HN := Lib.hid (fun W => new_ok most W hm1 hm2)
      clear hbad hm1 hm2
      go_enter Try.func3, Try.ntmps3
      go_upto_region 6 with (first
        | (go_at_call 7; refine HAL.out.mono ?_; unfold gives; rintro e w1 ⟨rfl, hb1⟩)
        | (go_at_call 8; refine (HN.out _).mono ?_; unfold NewPost; rintro e w2 ⟨⟨g, rfl, hT2⟩, hb2⟩)
        | go_in)
      have hb12 := nxt hb1 hb2
      have hfr : From w.heap.size (fresh w1 w2) := fun k hk => by have := (L6.From.fresh w1 w2) k hk; have := hb1.size; omega
      have hin : In w2 (fresh w1 w2) := L6.In.fresh _ _
      obtain ⟨S0, hS0⟩ : ∃ S0, S0 = fresh w1 w2 := ⟨_, rfl⟩
      rw [← hS0] at hT2 hfr hin
      clear hb1 hb2 hS0 HN hgt
      go_upto_region 9 with (first
        | (refine wpList_build rfl _ _ rfl #[(0, .int .i64 most)] rfl (build_rt1 most w2) ?_)
        | (refine wpList_store_new rfl _ _ _ rfl w2 (rtC most 0 0 none 0 0) rfl rfl 30 _ rtInfo rfl (rtC_ones _ _ _ _ _ _) ?_)
        | go_in)
      have hbm := below_new w2 (.cells (rtC most 0 0 none 0 0) 30)
      have hpl : PlAt w g w2.heap.size ⟨most, 0, 0, []⟩ ⟨most, 0, 0, []⟩ S0 none 0 (w2.alloc (.cells (rtC most 0 0 none 0 0) 30)) :=
        ⟨hT2.below hbm, hin.le hbm.size, hfr, nxt hb12 hbm, Blk.new _ _ _, Rd.nil, fun ad e => (nomatch e), fun hk => by have := hin _ hk; omega, hb12.size⟩
      obtain ⟨w3, hw3⟩ : ∃ w3, w3 = w2.alloc (.cells (rtC most 0 0 none 0 0) 30) := ⟨_, rfl⟩
      rw [← hw3] at hpl
      rw [← hw3]
      obtain ⟨gm, hgm⟩ : ∃ gm, gm = w2.heap.size := ⟨_, rfl⟩
      rw [← hgm] at hpl
      rw [← hgm]
      have HPL := Lib.hid hpl
      have HST := Lib.hid (show Sts 0 ⟨most, 0, 0, []⟩ from ⟨new_wf most hmost, Nat.le_refl _⟩)
      clear hw3 hgm hbm hb12 hfr hin hT2 hpl h1 h2
      go_wp2
      go_loopw [10] (fun i wr => ∃ (k : Nat) (s : TS) (S : Nat → Prop) (A : Option Addr) (c : Nat), i = .int .i64 k ∧ k ≤ n0 ∧ Sts k s ∧ PlAt w g gm s s S A c wr) (fun i _ => n0 - (RowKit.intOf i).toNat)
      case atStart => exact ⟨0, _, _, _, _, rfl, Nat.zero_le _, HST.out, HPL.out⟩
      case round =>
        obtain ⟨k, s, S, A, c, rfl, hk, hst, hP⟩ := hrel
        by_cases hlt : k < n0
        · obtain ⟨ad, rfl, hadl, hcs, hfit⟩ := (HX.out.below hP.bw).cells hlt
          obtain ⟨a, ha⟩ : ∃ a, a = D k := ⟨_, rfl⟩
          rw [← ha] at hcs hfit
          have hcs1 : ∀ j u, (actL a)[j]? = some u → wr.cell? ((ad.add (k * 4)).add j) = some u := hcs
          clear ha hcs
          go_upto_region 15 with (first
            | (refine wpList_cells_at rfl _ _ rfl (ad.add (k * 4)) rfl (actL a) _ hcs1 Try.underlying32 rfl actInfo ?_)
            | (refine wpList_store_new rfl _ _ _ rfl wr (actC a) rfl rfl 32 _ actInfo rfl (actC_ones _) ?_)
            | go_in)
          have hR := RpAt.start hP a
          obtain ⟨w4, hw4⟩ : ∃ w4, w4 = wr.alloc (.cells (actC a) 32) := ⟨_, rfl⟩
          rw [← hw4] at hR
          rw [← hw4]
          obtain ⟨p, hp⟩ : ∃ p, p = wr.heap.size := ⟨_, rfl⟩
          rw [← hp] at hR
          rw [← hp]
          clear hw4 hp hP hcs1 hadl
          have a0 : w4.cell? ⟨p, 0, none⟩ = some (.int .i64 a.kind) := hR.act.cell 0
          have a1 : w4.cell? ⟨p, 1, none⟩ = some (.int .i64 a.n) := hR.act.cell 1
          have a2 : w4.cell? ⟨p, 2, none⟩ = some (.int .i64 a.rd) := hR.act.cell 2
          have a3 : w4.cell? ⟨p, 3, none⟩ = some (.int .i64 a.par) := hR.act.cell 3
          by_cases h0 : a.kind = 0
          · have q0 : (a.kind == 0) = true := by simpa using h0
            have hbw4 := hR.py.bw
            go_upto_region 17 with (first
              | (refine wpList_build rfl _ _ rfl #[(1, .int .i64 a.par)] rfl (build_cr1 a.par _) ?_)
              | (refine wpList_build rfl _ _ rfl #[(0, .int .i64 (k : Int)), (1, .int .i64 a.rd), (4, .agg (crC ⟨0, 0, a.par, 0⟩))] rfl (build_bl3 (k : Int) a.rd a.par 0 _) ?_)
              | (refine wpList_store_new rfl _ _ _ rfl w4 (blC ⟨(k : Int), a.rd, a.par, 0⟩) rfl rfl 39 _ blInfo rfl (blC_ones _) ?_)
              | go_in)
            have hR5 := hR.block ⟨(k : Int), a.rd, a.par, 0⟩
            have HBW : Hid ((⟨(k : Int), a.rd, a.par, 0⟩ : Bl).wf) := Lib.hid ⟨show inI (k : Int) from inI_small (by omega) (by omega), hfit.2.2.1, hfit.2.2.2, show inI 0 from inI_small (by decide) (by decide)⟩
            obtain ⟨b, hb⟩ : ∃ b : Bl, b = ⟨(k : Int), a.rd, a.par, 0⟩ := ⟨_, rfl⟩
            rw [← hb] at hR5 HBW
            rw [← hb]
            obtain ⟨w5, hw5⟩ : ∃ w5, w5 = w4.alloc (.cells (blC b) 39) := ⟨_, rfl⟩
            rw [← hw5] at hR5
            rw [← hw5]
            obtain ⟨q, hq⟩ : ∃ q, q = w4.heap.size := ⟨_, rfl⟩
            rw [← hq] at hR5
            rw [← hq]
            clear hw5 hq hb hR a0 a1 a2 a3
            have HRND := Lib.hid (fun X (hbx : Below w.heap.size w X) => round_any (some ad) n0 c0 D a.par X (HX.out.below hbx) (by omega))
            obtain ⟨rv, hrv⟩ : ∃ rv, rv = roundV D a.par n0 := ⟨_, rfl⟩
            rw [← hrv] at HRND
            clear hrv
            have hS5 := hR5.drew
            (try simp only [Act.put])
            refine wp_region_S (RnAt w g gm p q s s S A c a b) (by kernel_rfl) (by kernel_rfl) hS5 ?_
            have ne : Nonempty (WorldIn (RnAt w g gm p q s s S A c a b)) := ⟨⟨_, hS5⟩⟩
            have p1 : ∀ y : WorldIn (RnAt w g gm p q s s S A c a b), y.w.cell? ⟨p, 1, none⟩ = some (.int .i64 a.n) := fun y => y.h.act.cell 1
            have p2 : ∀ y : WorldIn (RnAt w g gm p q s s S A c a b), y.w.cell? ⟨p, 2, none⟩ = some (.int .i64 a.rd) := fun y => y.h.act.cell 2
            have p3 : ∀ y : WorldIn (RnAt w g gm p q s s S A c a b), y.w.cell? ⟨p, 3, none⟩ = some (.int .i64 a.par) := fun y => y.h.act.cell 3
            clear hR5
            by_cases hpn : a.par = a.n
            · have q1 : (a.par == a.n) = true := by simpa using hpn
              clear hpn
              repeat go_big_quiet_step (fail)
              refine wpQuiet_nil ?_
              intro zz
              obtain ⟨W, hW⟩ := zz
              dsimp only
              clear p1 p2 p3 ne hS5
              have HP := Lib.hid hW.py
              have HST2 := Lib.hid (show Sts (k + 1) s from ⟨hst.wf, Nat.le_succ_of_le hst.len⟩)
              clear hW hst
              go_wp2
              go_roundw
              case rel => exact ⟨k + 1, s, S, A, c, by go_num, by omega, HST2.out, HP.out⟩
              case measure => simp [RowKit.intOf]; omega
            · have q1 : (a.par == a.n) = false := by simpa using hpn
              clear hpn
              by_cases hrd : a.rd > 0
              · by_cases hrv : rv ≥ a.rd
                · repeat (first
                    | (refine wpQuiet_fn rfl 9 _ _ rfl Try.call9 [.slice (some ad) n0 c0, .int .i64 a.par] rfl (v := .int .i64 rv) (fun y => (HRND.out y.w y.h.py.bw).mono fun e w' ⟨he, hb⟩ => ⟨he, y.h.below hb⟩) ?_
                       conv => arg 6; simp only [Act.put, List.setIfInBounds_toArray, List.set_cons_zero, List.set_cons_succ])
                    | go_big_quiet_step (fail))
                  refine wpQuiet_nil ?_
                  intro zz
                  obtain ⟨W, hW⟩ := zz
                  dsimp only
                  clear p1 p2 p3 ne hS5
                  have HP := Lib.hid hW.py
                  have HST2 := Lib.hid (show Sts (k + 1) s from ⟨hst.wf, Nat.le_succ_of_le hst.len⟩)
                  clear hW hst
                  go_wp2
                  go_roundw
                  case rel => exact ⟨k + 1, s, S, A, c, by go_num, by omega, HST2.out, HP.out⟩
                  case measure => simp [RowKit.intOf]; omega
                · repeat (first
                    | (refine wpQuiet_fn rfl 9 _ _ rfl Try.call9 [.slice (some ad) n0 c0, .int .i64 a.par] rfl (v := .int .i64 rv) (fun y => (HRND.out y.w y.h.py.bw).mono fun e w' ⟨he, hb⟩ => ⟨he, y.h.below hb⟩) ?_
                       conv => arg 6; simp only [Act.put, List.setIfInBounds_toArray, List.set_cons_zero, List.set_cons_succ])
                    | go_big_quiet_step (fail))
                  refine wpQuiet_nil ?_
                  intro zz
                  obtain ⟨W, hW⟩ := zz
                  dsimp only
                  clear p1 p2 p3 ne hS5
                  have HR := Lib.hid hW
                  obtain ⟨M2, hM2⟩ : ∃ M2, M2 = putS s a.n b := ⟨_, rfl⟩
                  obtain ⟨pe, hpe⟩ : ∃ pe, pe = putE s a.n b := ⟨_, rfl⟩
                  have hst2 : Sts (k + 1) M2 := ⟨by rw [hM2]; exact putS_wf hst.wf hfit.2.1 HBW.out, by rw [hM2]; have := putS_len s a.n b; have := hst.len; omega⟩
                  have HQ1 := Lib.hid (show Calls Try.prog 10 #[.agg (rtC s.most s.root s.round A s.L.length c), .int .i64 a.n, .agg (blC b)] W (RTPost A M2 pe W) from by
                    rw [hM2, hpe]; exact rput_any s hst.wf A c (by have := hst.len; omega) a.n b W hW.py.rd)
                  have HQ2 := Lib.hid (fun X (hT : Tr X S g s) (hi : In X S) => (show Calls Try.prog 11 #[.pointer (some ⟨g, 0, none⟩), .int .i64 a.n, .agg (blC b)] X (fun e w' => e = .returned (.int .i64 pe) ∧ Tr w' (moreB S X w') g M2 ∧ Turn S X w') from by
                    rw [hM2, hpe]
                    refine (put_any hT hst.wf (by have := hst.len; omega) hi a.n b hfit.2.1 HBW.out).mono ?_
                    rintro e w' ⟨he, hT2, ht⟩
                    exact ⟨he, hT2.mono fun _ _ => .inl, ht⟩))
                  have c1 : W.cell? ⟨p, 1, none⟩ = some (.int .i64 a.n) := hW.act.cell 1
                  have mbW := hW.py.mb
                  have blW := hW.bl
                  clear hM2 hpe hW hst
                  go_upto_region 19 with (first
                    | (refine wpList_row_at rfl _ _ rfl gm rfl _ _ _ _ mbW Try.underlying30 rfl rtInfo ?_)
                    | (refine wpList_row_at rfl _ _ rfl q rfl _ _ _ _ blW Try.underlying39 rfl blInfo ?_)
                    | (go_at_call 10; (with_reducible refine HQ1.out.mono ?_); unfold RTPost; rintro e6 w6 ⟨A2, c2, rfl, hrd6, hA6, hb6⟩)
                    | (refine wpList_store_new rfl _ _ _ rfl w6 (rtC M2.most M2.root M2.round A2 M2.L.length c2) rfl rfl 30 _ rtInfo rfl (rtC_ones _ _ _ _ _ _) ?_)
                    | go_in)
                  have hbn := below_new w6 (.cells (rtC M2.most M2.root M2.round A2 M2.L.length c2) 30)
                  have k13 : Blk (w6.alloc (.cells (rtC M2.most M2.root M2.round A2 M2.L.length c2) 30)) w6.heap.size 30 (rtC M2.most M2.root M2.round A2 M2.L.length c2) := Blk.new _ _ _
                  obtain ⟨w7, hw7⟩ : ∃ w7, w7 = w6.alloc (.cells (rtC M2.most M2.root M2.round A2 M2.L.length c2) 30) := ⟨_, rfl⟩
                  rw [← hw7] at hbn k13
                  rw [← hw7]
                  obtain ⟨g13, hg13⟩ : ∃ g13, g13 = w6.heap.size := ⟨_, rfl⟩
                  rw [← hg13] at k13
                  rw [← hg13]
                  have hb7 := nxt hb6 hbn
                  have hR8 := HR.out.doc hb7 (hrd6.below hbn) (M' := M2) (c' := c2) (fun ad e => (hA6 ad e).imp id (fun h => ⟨h.1, Nat.lt_of_lt_of_le h.2 hbn.size⟩))
                  have mb7 := (HR.out.below hb7).py.mb
                  clear c1 mbW blW hw7 hg13 hbn hb6 hb7 hrd6 hA6 HR
                  go_upto_region 20 with (first
                    | (refine wpList_row_at rfl _ _ rfl g13 rfl _ _ _ _ k13 Try.underlying30 rfl rtInfo ?_)
                    | (refine wpList_store_row rfl _ _ _ rfl gm (rtC M2.most M2.root M2.round A2 M2.L.length c2) rfl rfl _ _ mb7 rtInfo rfl (rtC_ones _ _ _ _ _ _) ?_)
                    | go_in)
                  obtain ⟨w8, hw8⟩ : ∃ w8, w8 = w7.setRow gm (rtC M2.most M2.root M2.round A2 M2.L.length c2) := ⟨_, rfl⟩
                  rw [← hw8] at hR8
                  rw [← hw8]
                  clear hw8 mb7 k13
                  have HQ3 := Lib.hid (HQ2.out w8 hR8.py.tr hR8.py.inn)
                  have c1 : w8.cell? ⟨p, 1, none⟩ = some (.int .i64 a.n) := hR8.act.cell 1
                  have bl8 := hR8.bl
                  have hpp : (pe != pe) = false := by simp
                  have HR8 := Lib.hid hR8
                  clear hR8 HQ1 HQ2
                  go_upto_region 26 with (first
                    | (refine wpList_row_at rfl _ _ rfl q rfl _ _ _ _ bl8 Try.underlying39 rfl blInfo ?_)
                    | (go_at_call 11; (with_reducible refine HQ3.out.mono ?_); rintro e9 w9 ⟨rfl, hT9, ht9⟩)
                    | go_in)
                  have hR9 := HR8.out.turn hT9 ht9
                  obtain ⟨S9, hS9⟩ : ∃ S9, S9 = moreB S w8 w9 := ⟨_, rfl⟩
                  rw [← hS9] at hR9
                  clear hS9 hT9 ht9 c1 bl8 hpp HQ3 HR8
                  have HR9 := Lib.hid hR9
                  have HSH := Lib.hid (fun X n (hb : Below w9.heap.size w9 X) (hn : inI n) => (hR9.py.below hb).shows hst2.wf (by have := hst2.len; omega) n hn)
                  have b1 : w9.cell? ⟨p, 1, none⟩ = some (.int .i64 a.n) := hR9.act.cell 1
                  have mb9 := hR9.py.mb
                  have HST2 := Lib.hid hst2
                  have H1 := Lib.hid (HSH.out w9 a.n (Below.refl _ _) hfit.2.1)
                  clear hR9 hst2
                  go_wp2_with (first
                    | (go_at_call 14; refine H3.out.mono ?_; unfold gives; rintro e12 w12 ⟨rfl, hb12⟩)
                    | (go_at_call 14; refine H2.out.mono ?_; unfold gives; rintro e11 w11 ⟨rfl, hb11⟩
                       have mb11 := mb10.below hb11 mb10.lt
                       have H3 := Lib.hid (HSH.out w11 look (nxt hb10 hb11) hlook))
                    | (go_at_call 14; refine H1.out.mono ?_; unfold gives; rintro e10 w10 ⟨rfl, hb10⟩
                       have b3 : w10.cell? ⟨p, 3, none⟩ = some (.int .i64 a.par) := (HR9.out.act.below hb10 HR9.out.act.lt).cell 3
                       have mb10 := HR9.out.py.mb.below hb10 HR9.out.py.mb.lt
                       have H2 := Lib.hid (HSH.out w10 a.par hb10 hfit.2.2.2))
                    | (refine wpList_row_at ?hw _ _ rfl gm rfl _ _ _ _ mb11 Try.underlying30 rfl rtInfo ?_
                       case hw => rfl
                       (try simp only [Act.put, List.setIfInBounds_toArray, List.set_cons_zero, List.set_cons_succ]))
                    | (refine wpList_row_at ?hw _ _ rfl gm rfl _ _ _ _ mb10 Try.underlying30 rfl rtInfo ?_
                       case hw => rfl
                       (try simp only [Act.put, List.setIfInBounds_toArray, List.set_cons_zero, List.set_cons_succ]))
                    | (refine wpList_row_at ?hw _ _ rfl gm rfl _ _ _ _ mb9 Try.underlying30 rfl rtInfo ?_
                       case hw => rfl
                       (try simp only [Act.put, List.setIfInBounds_toArray, List.set_cons_zero, List.set_cons_succ]))
                    | go_in)
                  go_roundw
                  case rel => exact ⟨k + 1, M2, S9, A2, c2, by go_num, by omega, HST2.out, (HR9.out.py.below (nxt (nxt hb10 hb11) hb12))⟩
                  case measure => simp [RowKit.intOf]; omega
              · repeat go_big_quiet_step (fail)
                refine wpQuiet_nil ?_
                intro zz
                obtain ⟨W, hW⟩ := zz
                dsimp only
                clear p1 p2 p3 ne hS5
                have HR := Lib.hid hW
                obtain ⟨M2, hM2⟩ : ∃ M2, M2 = putS s a.n b := ⟨_, rfl⟩
                obtain ⟨pe, hpe⟩ : ∃ pe, pe = putE s a.n b := ⟨_, rfl⟩
                have hst2 : Sts (k + 1) M2 := ⟨by rw [hM2]; exact putS_wf hst.wf hfit.2.1 HBW.out, by rw [hM2]; have := putS_len s a.n b; have := hst.len; omega⟩
                have HQ1 := Lib.hid (show Calls Try.prog 10 #[.agg (rtC s.most s.root s.round A s.L.length c), .int .i64 a.n, .agg (blC b)] W (RTPost A M2 pe W) from by
                  rw [hM2, hpe]; exact rput_any s hst.wf A c (by have := hst.len; omega) a.n b W hW.py.rd)
                have HQ2 := Lib.hid (fun X (hT : Tr X S g s) (hi : In X S) => (show Calls Try.prog 11 #[.pointer (some ⟨g, 0, none⟩), .int .i64 a.n, .agg (blC b)] X (fun e w' => e = .returned (.int .i64 pe) ∧ Tr w' (moreB S X w') g M2 ∧ Turn S X w') from by
                  rw [hM2, hpe]
                  refine (put_any hT hst.wf (by have := hst.len; omega) hi a.n b hfit.2.1 HBW.out).mono ?_
                  rintro e w' ⟨he, hT2, ht⟩
                  exact ⟨he, hT2.mono fun _ _ => .inl, ht⟩))
                have c1 : W.cell? ⟨p, 1, none⟩ = some (.int .i64 a.n) := hW.act.cell 1
                have mbW := hW.py.mb
                have blW := hW.bl
                clear hM2 hpe hW hst
                go_upto_region 19 with (first
                  | (refine wpList_row_at rfl _ _ rfl gm rfl _ _ _ _ mbW Try.underlying30 rfl rtInfo ?_)
                  | (refine wpList_row_at rfl _ _ rfl q rfl _ _ _ _ blW Try.underlying39 rfl blInfo ?_)
                  | (go_at_call 10; (with_reducible refine HQ1.out.mono ?_); unfold RTPost; rintro e6 w6 ⟨A2, c2, rfl, hrd6, hA6, hb6⟩)
                  | (refine wpList_store_new rfl _ _ _ rfl w6 (rtC M2.most M2.root M2.round A2 M2.L.length c2) rfl rfl 30 _ rtInfo rfl (rtC_ones _ _ _ _ _ _) ?_)
                  | go_in)
                have hbn := below_new w6 (.cells (rtC M2.most M2.root M2.round A2 M2.L.length c2) 30)
                have k13 : Blk (w6.alloc (.cells (rtC M2.most M2.root M2.round A2 M2.L.length c2) 30)) w6.heap.size 30 (rtC M2.most M2.root M2.round A2 M2.L.length c2) := Blk.new _ _ _
                obtain ⟨w7, hw7⟩ : ∃ w7, w7 = w6.alloc (.cells (rtC M2.most M2.root M2.round A2 M2.L.length c2) 30) := ⟨_, rfl⟩
                rw [← hw7] at hbn k13
                rw [← hw7]
                obtain ⟨g13, hg13⟩ : ∃ g13, g13 = w6.heap.size := ⟨_, rfl⟩
                rw [← hg13] at k13
                rw [← hg13]
                have hb7 := nxt hb6 hbn
                have hR8 := HR.out.doc hb7 (hrd6.below hbn) (M' := M2) (c' := c2) (fun ad e => (hA6 ad e).imp id (fun h => ⟨h.1, Nat.lt_of_lt_of_le h.2 hbn.size⟩))
                have mb7 := (HR.out.below hb7).py.mb
                clear c1 mbW blW hw7 hg13 hbn hb6 hb7 hrd6 hA6 HR
                go_upto_region 20 with (first
                  | (refine wpList_row_at rfl _ _ rfl g13 rfl _ _ _ _ k13 Try.underlying30 rfl rtInfo ?_)
                  | (refine wpList_store_row rfl _ _ _ rfl gm (rtC M2.most M2.root M2.round A2 M2.L.length c2) rfl rfl _ _ mb7 rtInfo rfl (rtC_ones _ _ _ _ _ _) ?_)
                  | go_in)
                obtain ⟨w8, hw8⟩ : ∃ w8, w8 = w7.setRow gm (rtC M2.most M2.root M2.round A2 M2.L.length c2) := ⟨_, rfl⟩
                rw [← hw8] at hR8
                rw [← hw8]
                clear hw8 mb7 k13
                have HQ3 := Lib.hid (HQ2.out w8 hR8.py.tr hR8.py.inn)
                have c1 : w8.cell? ⟨p, 1, none⟩ = some (.int .i64 a.n) := hR8.act.cell 1
                have bl8 := hR8.bl
                have hpp : (pe != pe) = false := by simp
                have HR8 := Lib.hid hR8
                clear hR8 HQ1 HQ2
                go_upto_region 26 with (first
                  | (refine wpList_row_at rfl _ _ rfl q rfl _ _ _ _ bl8 Try.underlying39 rfl blInfo ?_)
                  | (go_at_call 11; (with_reducible refine HQ3.out.mono ?_); rintro e9 w9 ⟨rfl, hT9, ht9⟩)
                  | go_in)
                have hR9 := HR8.out.turn hT9 ht9
                obtain ⟨S9, hS9⟩ : ∃ S9, S9 = moreB S w8 w9 := ⟨_, rfl⟩
                rw [← hS9] at hR9
                clear hS9 hT9 ht9 c1 bl8 hpp HQ3 HR8
                have HR9 := Lib.hid hR9
                have HSH := Lib.hid (fun X n (hb : Below w9.heap.size w9 X) (hn : inI n) => (hR9.py.below hb).shows hst2.wf (by have := hst2.len; omega) n hn)
                have b1 : w9.cell? ⟨p, 1, none⟩ = some (.int .i64 a.n) := hR9.act.cell 1
                have mb9 := hR9.py.mb
                have HST2 := Lib.hid hst2
                have H1 := Lib.hid (HSH.out w9 a.n (Below.refl _ _) hfit.2.1)
                clear hR9 hst2
                go_wp2_with (first
                  | (go_at_call 14; refine H3.out.mono ?_; unfold gives; rintro e12 w12 ⟨rfl, hb12⟩)
                  | (go_at_call 14; refine H2.out.mono ?_; unfold gives; rintro e11 w11 ⟨rfl, hb11⟩
                     have mb11 := mb10.below hb11 mb10.lt
                     have H3 := Lib.hid (HSH.out w11 look (nxt hb10 hb11) hlook))
                  | (go_at_call 14; refine H1.out.mono ?_; unfold gives; rintro e10 w10 ⟨rfl, hb10⟩
                     have b3 : w10.cell? ⟨p, 3, none⟩ = some (.int .i64 a.par) := (HR9.out.act.below hb10 HR9.out.act.lt).cell 3
                     have mb10 := HR9.out.py.mb.below hb10 HR9.out.py.mb.lt
                     have H2 := Lib.hid (HSH.out w10 a.par hb10 hfit.2.2.2))
                  | (refine wpList_row_at ?hw _ _ rfl gm rfl _ _ _ _ mb11 Try.underlying30 rfl rtInfo ?_
                     case hw => rfl
                     (try simp only [Act.put, List.setIfInBounds_toArray, List.set_cons_zero, List.set_cons_succ]))
                  | (refine wpList_row_at ?hw _ _ rfl gm rfl _ _ _ _ mb10 Try.underlying30 rfl rtInfo ?_
                     case hw => rfl
                     (try simp only [Act.put, List.setIfInBounds_toArray, List.set_cons_zero, List.set_cons_succ]))
                  | (refine wpList_row_at ?hw _ _ rfl gm rfl _ _ _ _ mb9 Try.underlying30 rfl rtInfo ?_
                     case hw => rfl
                     (try simp only [Act.put, List.setIfInBounds_toArray, List.set_cons_zero, List.set_cons_succ]))
                  | go_in)
                go_roundw
                case rel => exact ⟨k + 1, M2, S9, A2, c2, by go_num, by omega, HST2.out, (HR9.out.py.below (nxt (nxt hb10 hb11) hb12))⟩
                case measure => simp [RowKit.intOf]; omega
          · have q0 : (a.kind == 0) = false := by simpa using h0
            have HR := Lib.hid hR
            obtain ⟨M2, hM2⟩ : ∃ M2, M2 = pruneT s a.n := ⟨_, rfl⟩
            obtain ⟨pe, hpe⟩ : ∃ pe, pe = lackE s a.n := ⟨_, rfl⟩
            have hst2 : Sts (k + 1) M2 := ⟨by rw [hM2]; exact pruneT_wf hst.wf hfit.2.1, by rw [hM2]; have := pruneT_len s a.n; have := hst.len; omega⟩
            have HQ1 := Lib.hid (show Calls Try.prog 12 #[.agg (rtC s.most s.root s.round A s.L.length c), .int .i64 a.n] w4 (RTPost A M2 pe w4) from by
              rw [hM2, hpe]; exact dprune_any s hst.wf A c (by have := hst.len; omega) a.n w4 hR.py.rd)
            have HQ2 := Lib.hid (fun X (hT : Tr X S g s) (hi : In X S) => (show Calls Try.prog 13 #[.pointer (some ⟨g, 0, none⟩), .int .i64 a.n] X (fun e w' => e = .returned (.int .i64 pe) ∧ Tr w' (moreB S X w') g M2 ∧ Turn S X w') from by
              rw [hM2, hpe]
              exact cprune_any hT hst.wf (by have := hst.len; omega) hi a.n hfit.2.1))
            have mbW := hR.py.mb
            clear hM2 hpe hR hst
            go_upto_region 23 with (first
              | (refine wpList_row_at rfl _ _ rfl gm rfl _ _ _ _ mbW Try.underlying30 rfl rtInfo ?_)
              | (go_at_call 12; (with_reducible refine HQ1.out.mono ?_); unfold RTPost; rintro e6 w6 ⟨A2, c2, rfl, hrd6, hA6, hb6⟩)
              | (refine wpList_store_new rfl _ _ _ rfl w6 (rtC M2.most M2.root M2.round A2 M2.L.length c2) rfl rfl 30 _ rtInfo rfl (rtC_ones _ _ _ _ _ _) ?_)
              | go_in)
            have hbn := below_new w6 (.cells (rtC M2.most M2.root M2.round A2 M2.L.length c2) 30)
            have k13 : Blk (w6.alloc (.cells (rtC M2.most M2.root M2.round A2 M2.L.length c2) 30)) w6.heap.size 30 (rtC M2.most M2.root M2.round A2 M2.L.length c2) := Blk.new _ _ _
            obtain ⟨w7, hw7⟩ : ∃ w7, w7 = w6.alloc (.cells (rtC M2.most M2.root M2.round A2 M2.L.length c2) 30) := ⟨_, rfl⟩
            rw [← hw7] at hbn k13
            rw [← hw7]
            obtain ⟨g13, hg13⟩ : ∃ g13, g13 = w6.heap.size := ⟨_, rfl⟩
            rw [← hg13] at k13
            rw [← hg13]
            have hb7 := nxt hb6 hbn
            have hR8 := HR.out.doc hb7 (hrd6.below hbn) (M' := M2) (c' := c2) (fun ad e => (hA6 ad e).imp id (fun h => ⟨h.1, Nat.lt_of_lt_of_le h.2 hbn.size⟩))
            have mb7 := (HR.out.below hb7).py.mb
            clear a0 a1 a2 a3 mbW hw7 hg13 hbn hb6 hb7 hrd6 hA6 HR
            go_upto_region 24 with (first
              | (refine wpList_row_at rfl _ _ rfl g13 rfl _ _ _ _ k13 Try.underlying30 rfl rtInfo ?_)
              | (refine wpList_store_row rfl _ _ _ rfl gm (rtC M2.most M2.root M2.round A2 M2.L.length c2) rfl rfl _ _ mb7 rtInfo rfl (rtC_ones _ _ _ _ _ _) ?_)
              | go_in)
            obtain ⟨w8, hw8⟩ : ∃ w8, w8 = w7.setRow gm (rtC M2.most M2.root M2.round A2 M2.L.length c2) := ⟨_, rfl⟩
            rw [← hw8] at hR8
            rw [← hw8]
            clear hw8 mb7 k13
            have HQ3 := Lib.hid (HQ2.out w8 hR8.py.tr hR8.py.inn)
            have c1 : w8.cell? ⟨p, 1, none⟩ = some (.int .i64 a.n) := hR8.act.cell 1
            have hpp : (pe != pe) = false := by simp
            have HR8 := Lib.hid hR8
            clear hR8 HQ1 HQ2
            go_upto_region 26 with (first
              | (go_at_call 13; (with_reducible refine HQ3.out.mono ?_); rintro e9 w9 ⟨rfl, hT9, ht9⟩)
              | go_in)
            have hR9 := HR8.out.turn hT9 ht9
            obtain ⟨S9, hS9⟩ : ∃ S9, S9 = moreB S w8 w9 := ⟨_, rfl⟩
            rw [← hS9] at hR9
            clear hS9 hT9 ht9 c1 hpp HQ3 HR8
            have HR9 := Lib.hid hR9
            have HSH := Lib.hid (fun X n (hb : Below w9.heap.size w9 X) (hn : inI n) => (hR9.py.below hb).shows hst2.wf (by have := hst2.len; omega) n hn)
            have b1 : w9.cell? ⟨p, 1, none⟩ = some (.int .i64 a.n) := hR9.act.cell 1
            have mb9 := hR9.py.mb
            have HST2 := Lib.hid hst2
            have H1 := Lib.hid (HSH.out w9 a.n (Below.refl _ _) hfit.2.1)
            clear hR9 hst2
            go_wp2_with (first
              | (go_at_call 14; refine H3.out.mono ?_; unfold gives; rintro e12 w12 ⟨rfl, hb12⟩)
              | (go_at_call 14; refine H2.out.mono ?_; unfold gives; rintro e11 w11 ⟨rfl, hb11⟩
                 have mb11 := mb10.below hb11 mb10.lt
                 have H3 := Lib.hid (HSH.out w11 look (nxt hb10 hb11) hlook))
              | (go_at_call 14; refine H1.out.mono ?_; unfold gives; rintro e10 w10 ⟨rfl, hb10⟩
                 have b3 : w10.cell? ⟨p, 3, none⟩ = some (.int .i64 a.par) := (HR9.out.act.below hb10 HR9.out.act.lt).cell 3
                 have mb10 := HR9.out.py.mb.below hb10 HR9.out.py.mb.lt
                 have H2 := Lib.hid (HSH.out w10 a.par hb10 hfit.2.2.2))
              | (refine wpList_row_at ?hw _ _ rfl gm rfl _ _ _ _ mb11 Try.underlying30 rfl rtInfo ?_
                 case hw => rfl
                 (try simp only [Act.put, List.setIfInBounds_toArray, List.set_cons_zero, List.set_cons_succ]))
              | (refine wpList_row_at ?hw _ _ rfl gm rfl _ _ _ _ mb10 Try.underlying30 rfl rtInfo ?_
                 case hw => rfl
                 (try simp only [Act.put, List.setIfInBounds_toArray, List.set_cons_zero, List.set_cons_succ]))
              | (refine wpList_row_at ?hw _ _ rfl gm rfl _ _ _ _ mb9 Try.underlying30 rfl rtInfo ?_
                 case hw => rfl
                 (try simp only [Act.put, List.setIfInBounds_toArray, List.set_cons_zero, List.set_cons_succ]))
              | go_in)
            go_roundw
            case rel => exact ⟨k + 1, M2, S9, A2, c2, by go_num, by omega, HST2.out, (HR9.out.py.below (nxt (nxt hb10 hb11) hb12))⟩
            case measure => simp [RowKit.intOf]; omega
        · obtain rfl : k = n0 := by omega
          have hbz := hP.bw
          clear hP
          go_wp2
          go_ret
          exact ⟨rfl, hbz⟩
end Go.Proofs.Ytgclofemhhhepaa
