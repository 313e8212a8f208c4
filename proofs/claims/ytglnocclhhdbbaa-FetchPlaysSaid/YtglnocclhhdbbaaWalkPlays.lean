/-
  What any calls answer is the document's answer: walked.
-/
import Derived.Test.YtglnocclhhdbbaaPlayAt
import Derived.Deep.CutBlock
import Derived.Deep.CutRange
set_option linter.unusedSimpArgs false
set_option linter.unusedVariables false
set_option maxRecDepth 10000
namespace Go.Proofs.Ytglnocclhhdbbaa
open Go.RowKit Go.Lib
open L3 (Blk Reads block_of_add add_of_add)
open L6 (Turn moreB fresh From In)
open L4 (isF isF_mk isF_not isF_le isF_gt more)

set_option maxHeartbeats 4000000 in
set_option maxRecDepth 100000 in
theorem plays_walk (f me most tries : Int) (A0 : Option Addr) (n0 c0 : Nat) (D : Nat → Actx) (w : World) (hf : inI f) (hme : inI me) (hmost : inI most) (htr : inI tries) (hx : Acts w A0 n0 D) (hm : n0 ≤ maxLen) :
    Calls Try.prog 3 #[.int .i64 f, .int .i64 me, .int .i64 most, .int .i64 tries, .slice A0 n0 c0] w fun e w' => e = .returned (.bool true) ∧ Below w.heap.size w w' := by
  have HAL := Lib.hid (alive_any w)
  by_cases hbig : 100 < n0
  · have hb1 : (n0 : Int) > 100 := by omega
    clear hx hf hme hmost htr hm
    go_enter Try.func3, Try.ntmps3
    go_wp2_with (first
      | (go_at_call 6; refine HAL.out.mono ?_; unfold gives; rintro e w1 ⟨rfl, hb1⟩)
      | go_in)
    go_ret
    exact ⟨rfl, hb1⟩
  · have hn100 : n0 ≤ 100 := by omega
    have hgt : ¬ (n0 : Int) > 100 := by omega
    have HX := Lib.hid hx
    clear hx hm hbig
    by_cases hbad : (isF f = false ∨ most < 1 ∨ 16 < most ∨ tries < 1) ∨ (me < 0 ∨ 3 * f + 1 ≤ me)
    · obtain ⟨k, hk0, HN⟩ : ∃ k : Int, (k != 0) = true ∧ Hid ((∀ W, Calls Try.prog 7 #[.int .i64 f, .int .i64 me, .int .i64 most, .int .i64 tries] W (gives (.tuple #[.pointer none, .int .i64 k]) W)) ∧ (∀ W, Calls Try.prog 8 #[.int .i64 f, .int .i64 me, .int .i64 most, .int .i64 tries] W (RNewPost zeroFS k W))) := by
        by_cases h : isF f = false ∨ most < 1 ∨ 16 < most ∨ tries < 1
        · exact ⟨1, by decide, Lib.hid ⟨fun W => new_arg f me most tries W h, fun W => rnew_arg f me most tries W hf h⟩⟩
        · have h2 : me < 0 ∨ 3 * f + 1 ≤ me := hbad.resolve_left h
          have hfT : isF f = true := by
            rcases Bool.eq_false_or_eq_true (isF f) with h3 | h3
            · exact h3
            · exact absurd (.inl h3) h
          refine ⟨40, by decide, Lib.hid ⟨fun W => new_signer f me most tries W hfT (by omega) (by omega) (by omega) h2, fun W => ?_⟩⟩
          have := rnew_more f me most tries W hf hfT (by omega) (by omega) (by omega)
          rwa [if_pos h2] at this
      have hkk : (k != k) = false := by simp
      clear hbad hme hmost htr hf
      rcases Nat.eq_zero_or_pos n0 with hz | hz
      all_goals
        have hzi : (0 : Int) < (n0 : Int) ∨ ¬ (0 : Int) < (n0 : Int) := by omega
        go_enter Try.func3, Try.ntmps3
        go_upto_region 9 with (first
          | (go_at_call 6; refine HAL.out.mono ?_; unfold gives; rintro e w1 ⟨rfl, hb1⟩)
          | (go_at_call 7; refine (HN.out.1 _).mono ?_; unfold gives; rintro e w2 ⟨rfl, hb2⟩)
          | (go_at_call 8; refine (HN.out.2 _).mono ?_; unfold RNewPost gives; rintro e w3 ⟨rfl, hb3⟩)
          | (refine wpList_store_new rfl _ _ _ rfl w3 (rfV zeroFS (.slice none 0 0) (.slice none 0 0)) rfl rfl 30 _ rfInfo rfl (rfV_ones _ _ _ _ _ _ _) ?_)
          | go_in)
        have hbz := nxt (nxt (nxt hb1 hb2) hb3) (below_new w3 (.cells (rfV zeroFS (.slice none 0 0) (.slice none 0 0)) 30))
        go_wp2
        go_loopw [15] (fun i wr => i = .int .i64 0 ∧ Below w.heap.size w wr) (fun i _ => 0)
        case atStart => exact ⟨rfl, hbz⟩
        case round =>
          obtain ⟨rfl, hbw⟩ := hrel
          go_wp2
          go_ret
          exact ⟨rfl, hbw⟩
    · have hfT : isF f = true := by
        rcases Bool.eq_false_or_eq_true (isF f) with h3 | h3
        · exact h3
        · exact absurd (.inl (.inl h3)) hbad
      have h1 : 1 ≤ most := by omega
      have h2 : most ≤ 16 := by omega
      have h3 : 1 ≤ tries := by omega
      have hm0 : 0 ≤ me := by omega
      have hm1 : me < 3 * f + 1 := by omega
      have HN := Lib.hid (fun W => new_ok f me most tries W hfT h1 h2 h3 hm0 hm1 htr)
      have HR := Lib.hid (fun W => by have := rnew_more f me most tries W hf hfT h1 h2 h3; rw [if_neg (by omega)] at this; exact this)
      clear hbad hfT h1 h2 h3 hm0 hm1
      go_enter Try.func3, Try.ntmps3
      go_upto_region 6 with (first
        | (go_at_call 6; refine HAL.out.mono ?_; unfold gives; rintro e w1 ⟨rfl, hb1⟩)
        | (go_at_call 7; refine (HN.out _).mono ?_; rintro e w2 ⟨rfl, hF2, hb2⟩)
        | go_in)
      have hi2 : In w2 (fresh w1 w2) := L6.In.fresh _ _
      have hf2 : From w.heap.size (fresh w1 w2) := fun k hk => by have := (L6.From.fresh w1 w2) k hk; have := hb1.size; omega
      have hbz := nxt hb1 hb2
      obtain ⟨S0, hS0⟩ : ∃ S0, S0 = fresh w1 w2 := ⟨_, rfl⟩
      obtain ⟨g, hg⟩ : ∃ g, g = w1.heap.size := ⟨_, rfl⟩
      rw [← hS0] at hi2 hf2 hF2
      rw [← hg] at hF2 ⊢
      clear hS0 hg hb1 hb2 HN
      go_upto_region 9 with (first
        | (go_at_call 8; refine (HR.out _).mono ?_; unfold RNewPost gives; rintro e w3 ⟨rfl, hb3⟩)
        | (refine wpList_store_new rfl _ _ _ rfl w3 (rfV ⟨f, me, most, tries, []⟩ (.slice none 0 0) (.slice none 0 0)) rfl rfl 30 _ rfInfo rfl (rfV_ones _ _ _ _ _ _ _) ?_)
        | go_in)
      have hb4 := below_new w3 (.cells (rfV ⟨f, me, most, tries, []⟩ (.slice none 0 0) (.slice none 0 0)) 30)
      have hb34 := nxt hb3 hb4
      have hP0 : PlAt w g w3.heap.size ⟨f, me, most, tries, []⟩ ⟨f, me, most, tries, []⟩ S0 none 0 none 0 (w3.alloc (.cells (rfV ⟨f, me, most, tries, []⟩ (.slice none 0 0) (.slice none 0 0)) 30)) :=
        ⟨hF2.below hb34, hi2.le hb34.size, hf2, nxt hbz hb34, Blk.new _ _ _, Rd.nil, Rd.nil, fun ad e => (nomatch e), fun ad e => (nomatch e), fun hk => by have := hi2 _ hk; have := hb3.size; omega, by have := hbz.size; have := hb3.size; omega⟩
      obtain ⟨gm, hgm⟩ : ∃ gm, gm = w3.heap.size := ⟨_, rfl⟩
      obtain ⟨w4, hw4⟩ : ∃ w4, w4 = w3.alloc (.cells (rfV ⟨f, me, most, tries, []⟩ (.slice none 0 0) (.slice none 0 0)) 30) := ⟨_, rfl⟩
      rw [← hgm, ← hw4] at hP0
      rw [← hgm, ← hw4]
      have HP0 := Lib.hid hP0
      clear hgm hw4 hb4 hb34 hb3 hF2 hi2 hf2 hbz hP0 HR
      go_wp2
      go_loopw [15, 16, 17, 18, 19, 20, 21, 22, 23] (fun i _ _ _ _ _ _ _ _ wr => ∃ (k : Nat) (s : FS) (S : Nat → Prop) (A : Option Addr) (c : Nat) (B : Option Addr) (d : Nat), i = .int .i64 k ∧ k ≤ n0 ∧ PlAt w g gm s s S A c B d wr) (fun i _ _ _ _ _ _ _ _ _ => n0 - (RowKit.intOf i).toNat)
      case atStart => exact ⟨0, _, _, _, _, _, _, rfl, Nat.zero_le _, HP0.out⟩
      case round =>
        obtain ⟨k, s, S, A, c, B, d, rfl, hk, hP⟩ := hrel
        by_cases hlt : k < n0
        · obtain ⟨ad, rfl, hadl, h0, h1, hfit⟩ := Acts.cells HX.out hlt
          obtain ⟨a, ha⟩ : ∃ a, a = D k := ⟨_, rfl⟩
          rw [← ha] at h0 h1 hfit
          have HA0 := Lib.hid (fun (W : World) (hb : Below w.heap.size w W) => (hb.cell (p := ad.add (k * 2)) (by rw [block_of_add]; exact hadl)).trans h0)
          have HA1 := Lib.hid (fun (W : World) (hb : Below w.heap.size w W) => (hb.cell (p := ⟨(ad.add (k * 2)).block, (ad.add (k * 2)).off + 1, none⟩) (by show (ad.add (k * 2)).block < _; rw [block_of_add]; exact hadl)).trans h1)
          have HP := Lib.hid hP
          have r0 := HA0.out wr hP.bw
          have r1 := HA1.out wr hP.bw
          clear ha h0 h1 hP
          go_upto_block 2 with fail
          go_cut [16, 17, 18, 19, 20, 21] from 55 to 172 (fun x y _ _ _ _ wx => ∃ (e : Int) (s2 : FS) (S2 : Nat → Prop) (A2 : Option Addr) (c2 : Nat) (B2 : Option Addr) (d2 : Nat), x = .int .i64 e ∧ y = .int .i64 e ∧ PlAt w g gm s2 s2 S2 A2 c2 B2 d2 wx)
          case first =>
            by_cases h0 : a.kind = 0
            · have q0 : (a.kind == 0) = true := by simpa using h0
              clear h0
              have HWa := Lib.hid (want_any HP.out.ft a.n hfit.2)
              go_upto_region 16 with (first
                | (go_at_call 9; refine HWa.out.mono ?_; rintro e5 w5 ⟨rfl, hF5, hT5⟩)
                | go_in)
              have hP5 := HP.out.turn hF5 hT5
              have hd := hP5.below (Below.refl _ _).drew
              have hH : RdE ⟨(ad.add (k * 2)).block, (ad.add (k * 2)).off + 1, none⟩ a.n w5.drew := ⟨HA1.out _ hd.bw⟩
              have hnag : (ad.add (k * 2)).block ≠ gm := by rw [block_of_add]; have := hd.geg; omega
              generalize hMM : moreB S wr w5 = S5 at hP5 hd
              obtain ⟨ee, hee⟩ : ∃ q, q = wantE s a.n := ⟨_, rfl⟩
              have HQ := rwant_any s A B c d a.n w5.drew (HP.out.ra.kept (hT5.drew) (fun ad e => (HP.out.oa ad e).1)) (HP.out.rb.kept (hT5.drew) (fun ad e => (HP.out.ob ad e).1)) HP.out.ft.ok.1.small HP.out.ft.ok.1.rising
              rw [← hee] at HQ ⊢
              obtain ⟨s2, hs2⟩ : ∃ q, q = ({ s with L := wantL s a.n } : FS) := ⟨_, rfl⟩
              rw [← hs2] at HQ hP5 hd
              have HQ1 := Lib.hid HQ
              clear hMM hF5 hT5 hee hs2 HQ HWa r0 r1 hP5
              (try simp only [Act.put])
              refine wp_region_K (RdE ⟨(ad.add (k * 2)).block, (ad.add (k * 2)).off + 1, none⟩ a.n) [1, 2, 3, 4, 5] (by kernel_rfl) ?_
              refine wpK_quiet (f := 7) (by kernel_rfl) (fun _ x _ _ _ h => by cases x <;> exact h) hH [1, 2, 3, 4, 5] _ _ (by kernel_rfl) (by kernel_rfl) (by kernel_rfl) ?_
              have ne : Nonempty (WorldIn (RdE ⟨(ad.add (k * 2)).block, (ad.add (k * 2)).off + 1, none⟩ a.n)) := ⟨⟨_, hH⟩⟩
              have g0 : ∀ y : WorldIn (RdE ⟨(ad.add (k * 2)).block, (ad.add (k * 2)).off + 1, none⟩ a.n), y.w.cell? ⟨(ad.add (k * 2)).block, (ad.add (k * 2)).off + 1, none⟩ = some (.int .i64 a.n) := fun y => y.h.e
              conv => arg 5; simp [pick]
              repeat go_big_quiet_step (fail)
              refine wpQuiet_nil ?_
              clear ne g0
              obtain ⟨wd, hwd⟩ : ∃ W, W = w5.drew := ⟨_, rfl⟩
              rw [← hwd] at hd hH HQ1 ⊢
              clear hwd
              have hm5 := hd.mb
              refine wpK_step 0 (by kernel_rfl) rfl ?_
              refine wpList_row_at rfl _ _ rfl gm rfl _ _ _ _ hm5 Try.underlying30 rfl rfInfo ?_
              go_wp2
              refine stepQ.mk ⟨fun _ => hH, ?_⟩
              refine wpK_step 6 (by kernel_rfl) rfl ?_
              go_wp2_with (go_at_call 10; refine HQ1.out.mono ?_; unfold RFPost; rintro e6 w6 ⟨A6, c6, B6, d6, rfl, ra6, rb6, oa6, ob6, hb6⟩)
              have hH6 := hH.below hb6
              have hP7 := Lib.hid (hd.doc (c' := c6) (d' := d6) hb6 ra6 rb6 oa6 ob6)
              have hm6 := hm5.below hb6 hm5.lt
              clear hd hH hm5 HQ1 ra6 rb6 oa6 ob6 hb6
              refine stepQ.mk ⟨fun _ => hH6, ?_⟩
              refine wpK_step 7 (by kernel_rfl) rfl ?_
              go_wp2
              refine stepQ.mk ⟨fun _ => hH6, ?_⟩
              refine wpK_two 8 9 (by kernel_rfl) rfl rfl ?_ ?_
              · go_wp2
                refine stepQ.mk ⟨fun _ => hH6, ?_⟩
                refine wpK_two 9 10 (by kernel_rfl) rfl rfl ?_ ?_
                · go_wp2
                  refine stepQ.mk ⟨fun _ => hH6, ?_⟩
                  refine wpK_seq [10, 11] _ _ _ (by kernel_rfl) ?_
                  conv => arg 4; simp [pick]
                  go_wp2_with (first
                    | (refine wpList_store_row rfl _ _ _ rfl gm (rfV s2 (.slice A6 s2.L.length c6) (.slice B6 s2.L.length d6)) rfl rfl _ _ hm6 rfInfo rfl (rfV_ones _ _ _ _ _ _ _) ?_)
                    | go_in)
                  go_meet
                  exact ⟨ee, s2, S5, A6, c6, B6, d6, rfl, rfl, hP7.out⟩
                · refine wpList_store_row rfl _ _ _ rfl gm (rfV s2 (.slice A6 s2.L.length c6) (.slice B6 s2.L.length d6)) rfl rfl _ _ hm6 rfInfo rfl (rfV_ones _ _ _ _ _ _ _) ?_
                  have hH7 := hH6.row hnag (rfV s2 (.slice A6 s2.L.length c6) (.slice B6 s2.L.length d6))
                  go_wp2
                  refine stepQ.mk ⟨fun _ => hH7, ?_⟩
                  refine wpK_step 9 (by kernel_rfl) rfl ?_
                  go_wp2
                  refine stepQ.mk ⟨fun _ => hH7, ?_⟩
                  refine wpK_step 11 (by kernel_rfl) rfl ?_
                  go_wp2
                  refine stepQ.mk ⟨fun _ => hH7, ?_⟩
                  refine wpK_seq [] _ _ _ (by kernel_rfl) ?_
                  conv => arg 4; simp [pick]
                  go_wp2
                  go_meet
                  exact ⟨ee, s2, S5, A6, c6, B6, d6, rfl, rfl, hP7.out⟩
              · go_wp2
                refine stepQ.mk ⟨fun _ => hH6, ?_⟩
                refine wpK_step 8 (by kernel_rfl) rfl ?_
                go_wp2
                refine stepQ.mk ⟨fun _ => hH6, ?_⟩
                refine wpK_seq [10, 11] _ _ _ (by kernel_rfl) ?_
                conv => arg 4; simp [pick]
                go_wp2_with (first
                  | (refine wpList_store_row rfl _ _ _ rfl gm (rfV s2 (.slice A6 s2.L.length c6) (.slice B6 s2.L.length d6)) rfl rfl _ _ hm6 rfInfo rfl (rfV_ones _ _ _ _ _ _ _) ?_)
                  | go_in)
                go_meet
                exact ⟨ee, s2, S5, A6, c6, B6, d6, rfl, rfl, hP7.out⟩
            · have q0 : (a.kind == 0) = false := by simpa using h0
              by_cases h1 : a.kind = 1
              · have q1 : (a.kind == 1) = true := by simpa using h1
                clear h1
                have HWa := Lib.hid (got_any HP.out.ft a.n)
                go_upto_region 19 with (first
                  | (go_at_call 11; refine HWa.out.mono ?_; rintro e5 w5 ⟨rfl, hF5, hT5⟩)
                  | go_in)
                have hP5 := HP.out.turn hF5 hT5
                have hd := hP5.below (Below.refl _ _).drew
                have hH : RdE ⟨(ad.add (k * 2)).block, (ad.add (k * 2)).off + 1, none⟩ a.n w5.drew := ⟨HA1.out _ hd.bw⟩
                have hnag : (ad.add (k * 2)).block ≠ gm := by rw [block_of_add]; have := hd.geg; omega
                generalize hMM : moreB S wr w5 = S5 at hP5 hd
                obtain ⟨ee, hee⟩ : ∃ q, q = gotE s.L a.n := ⟨_, rfl⟩
                have HQ := rgot_any s A B c d a.n w5.drew (HP.out.ra.kept (hT5.drew) (fun ad e => (HP.out.oa ad e).1)) (HP.out.rb.kept (hT5.drew) (fun ad e => (HP.out.ob ad e).1)) HP.out.ft.ok.1.small
                rw [← hee] at HQ ⊢
                obtain ⟨s2, hs2⟩ : ∃ q, q = ({ s with L := gotL s.L a.n } : FS) := ⟨_, rfl⟩
                rw [← hs2] at HQ hP5 hd
                have HQ1 := Lib.hid HQ
                clear hMM hF5 hT5 hee hs2 HQ HWa r0 r1 hP5
                (try simp only [Act.put])
                refine wp_region_K (RdE ⟨(ad.add (k * 2)).block, (ad.add (k * 2)).off + 1, none⟩ a.n) [1, 2, 3, 4, 5] (by kernel_rfl) ?_
                refine wpK_quiet (f := 7) (by kernel_rfl) (fun _ x _ _ _ h => by cases x <;> exact h) hH [1, 2, 3, 4, 5] _ _ (by kernel_rfl) (by kernel_rfl) (by kernel_rfl) ?_
                have ne : Nonempty (WorldIn (RdE ⟨(ad.add (k * 2)).block, (ad.add (k * 2)).off + 1, none⟩ a.n)) := ⟨⟨_, hH⟩⟩
                have g0 : ∀ y : WorldIn (RdE ⟨(ad.add (k * 2)).block, (ad.add (k * 2)).off + 1, none⟩ a.n), y.w.cell? ⟨(ad.add (k * 2)).block, (ad.add (k * 2)).off + 1, none⟩ = some (.int .i64 a.n) := fun y => y.h.e
                conv => arg 5; simp [pick]
                repeat go_big_quiet_step (fail)
                refine wpQuiet_nil ?_
                clear ne g0
                obtain ⟨wd, hwd⟩ : ∃ W, W = w5.drew := ⟨_, rfl⟩
                rw [← hwd] at hd hH HQ1 ⊢
                clear hwd
                have hm5 := hd.mb
                refine wpK_step 0 (by kernel_rfl) rfl ?_
                refine wpList_row_at rfl _ _ rfl gm rfl _ _ _ _ hm5 Try.underlying30 rfl rfInfo ?_
                go_wp2
                refine stepQ.mk ⟨fun _ => hH, ?_⟩
                refine wpK_step 6 (by kernel_rfl) rfl ?_
                go_wp2_with (go_at_call 12; refine HQ1.out.mono ?_; unfold RFPost; rintro e6 w6 ⟨A6, c6, B6, d6, rfl, ra6, rb6, oa6, ob6, hb6⟩)
                have hH6 := hH.below hb6
                have hP7 := Lib.hid (hd.doc (c' := c6) (d' := d6) hb6 ra6 rb6 oa6 ob6)
                have hm6 := hm5.below hb6 hm5.lt
                clear hd hH hm5 HQ1 ra6 rb6 oa6 ob6 hb6
                refine stepQ.mk ⟨fun _ => hH6, ?_⟩
                refine wpK_step 7 (by kernel_rfl) rfl ?_
                go_wp2
                refine stepQ.mk ⟨fun _ => hH6, ?_⟩
                refine wpK_two 8 9 (by kernel_rfl) rfl rfl ?_ ?_
                · go_wp2
                  refine stepQ.mk ⟨fun _ => hH6, ?_⟩
                  refine wpK_two 9 10 (by kernel_rfl) rfl rfl ?_ ?_
                  · go_wp2
                    refine stepQ.mk ⟨fun _ => hH6, ?_⟩
                    refine wpK_seq [10, 11] _ _ _ (by kernel_rfl) ?_
                    conv => arg 4; simp [pick]
                    go_wp2_with (first
                      | (refine wpList_store_row rfl _ _ _ rfl gm (rfV s2 (.slice A6 s2.L.length c6) (.slice B6 s2.L.length d6)) rfl rfl _ _ hm6 rfInfo rfl (rfV_ones _ _ _ _ _ _ _) ?_)
                      | go_in)
                    go_meet
                    exact ⟨ee, s2, S5, A6, c6, B6, d6, rfl, rfl, hP7.out⟩
                  · refine wpList_store_row rfl _ _ _ rfl gm (rfV s2 (.slice A6 s2.L.length c6) (.slice B6 s2.L.length d6)) rfl rfl _ _ hm6 rfInfo rfl (rfV_ones _ _ _ _ _ _ _) ?_
                    have hH7 := hH6.row hnag (rfV s2 (.slice A6 s2.L.length c6) (.slice B6 s2.L.length d6))
                    go_wp2
                    refine stepQ.mk ⟨fun _ => hH7, ?_⟩
                    refine wpK_step 9 (by kernel_rfl) rfl ?_
                    go_wp2
                    refine stepQ.mk ⟨fun _ => hH7, ?_⟩
                    refine wpK_step 11 (by kernel_rfl) rfl ?_
                    go_wp2
                    refine stepQ.mk ⟨fun _ => hH7, ?_⟩
                    refine wpK_seq [] _ _ _ (by kernel_rfl) ?_
                    conv => arg 4; simp [pick]
                    go_wp2
                    go_meet
                    exact ⟨ee, s2, S5, A6, c6, B6, d6, rfl, rfl, hP7.out⟩
                · go_wp2
                  refine stepQ.mk ⟨fun _ => hH6, ?_⟩
                  refine wpK_step 8 (by kernel_rfl) rfl ?_
                  go_wp2
                  refine stepQ.mk ⟨fun _ => hH6, ?_⟩
                  refine wpK_seq [10, 11] _ _ _ (by kernel_rfl) ?_
                  conv => arg 4; simp [pick]
                  go_wp2_with (first
                    | (refine wpList_store_row rfl _ _ _ rfl gm (rfV s2 (.slice A6 s2.L.length c6) (.slice B6 s2.L.length d6)) rfl rfl _ _ hm6 rfInfo rfl (rfV_ones _ _ _ _ _ _ _) ?_)
                    | go_in)
                  go_meet
                  exact ⟨ee, s2, S5, A6, c6, B6, d6, rfl, rfl, hP7.out⟩
              · have q1 : (a.kind == 1) = false := by simpa using h1
                by_cases h2 : a.kind = 2
                · have q2 : (a.kind == 2) = true := by simpa using h2
                  clear h0 h1 h2 r0 r1
                  have HT := Lib.hid (tick_any HP.out.ft HP.out.inn)
                  go_upto_region 22 with (first
                    | (go_at_call 13; refine HT.out.mono ?_; unfold TickPost; rintro e5 w5 ⟨v5, rfl, ho5, hF5, hT5⟩
                       obtain ⟨A5, c5, rfl, hr5, _⟩ := Rd.of_row (f := akL) (k := 3) (fun _ => rfl) ho5)
                    | go_in)
                  have hP5 := HP.out.turn hF5 hT5
                  clear hF5 hT5 HT
                  generalize moreB S wr w5 = S5 at hP5
                  have HQ := Lib.hid (rtick_any s A B c d w5 hP5.ra hP5.rb HP.out.ft.ok)
                  have hm5 := hP5.mb
                  go_upto_region 23 with (first
                    | (refine wpList_row_at rfl _ _ rfl gm rfl _ _ _ _ hm5 Try.underlying30 rfl rfInfo ?_)
                    | (go_at_call 14; refine HQ.out.mono ?_; unfold RTickPost; rintro e6 w6 ⟨A6, c6, B6, d6, v6, rfl, ok6, ra6, rb6, oa6, ob6, hb6⟩
                       obtain ⟨A7, c7, rfl, hr7, _⟩ := Rd.of_row (f := akL) (k := 3) (fun _ => rfl) ok6)
                    | (refine wpList_store_new rfl _ _ _ rfl w6 (rfV s (.slice A6 (tickL s.tries s.L).length c6) (.slice B6 (tickL s.tries s.L).length d6)) rfl rfl 30 _ rfInfo rfl (rfV_ones _ _ _ _ _ _ _) ?_)
                    | go_in)
                  have hb7 := below_new w6 (.cells (rfV s (.slice A6 (tickL s.tries s.L).length c6) (.slice B6 (tickL s.tries s.L).length d6)) 30)
                  have hy7 := rfNew w6 s (.slice A6 (tickL s.tries s.L).length c6) (.slice B6 (tickL s.tries s.L).length d6)
                  obtain ⟨w7, hw7⟩ : ∃ W, W = w6.alloc (.cells (rfV s (.slice A6 (tickL s.tries s.L).length c6) (.slice B6 (tickL s.tries s.L).length d6)) 30) := ⟨_, rfl⟩
                  obtain ⟨q, hq⟩ : ∃ q, q = w6.heap.size := ⟨_, rfl⟩
                  rw [← hw7] at hb7 hy7 ⊢
                  rw [← hq] at hy7 ⊢
                  have hb57 := nxt hb6 hb7
                  have hm7 := hm5.below hb57 hm5.lt
                  have hP8 := hP5.doc (M' := { s with L := tickL s.tries s.L }) (c' := c6) (d' := d6) hb57 (ra6.below hb7) (rb6.below hb7) (fun ad e => .inr ⟨(oa6 ad e).1, Nat.lt_of_lt_of_le (oa6 ad e).2 hb7.size⟩) (fun ad e => .inr ⟨(ob6 ad e).1, Nat.lt_of_lt_of_le (ob6 ad e).2 hb7.size⟩)
                  have ht8 := turn_row w7 gm (rfV s (.slice A6 (tickL s.tries s.L).length c6) (.slice B6 (tickL s.tries s.L).length d6))
                  have ho7 := row_below ho5 hb57
                  have ok7 := row_below ok6 hb7
                  have x5 := (hr5.below hb57).kept ht8 (fun ad e hg => row_ne ho7 hm7 (by decide) (by rw [e]; show some ad.block = some gm; rw [hg]))
                  have x7 := (hr7.below hb7).kept ht8 (fun ad e hg => row_ne ok7 hm7 (by decide) (by rw [e]; show some ad.block = some gm; rw [hg]))
                  clear ho7 ok7 ht8 ho5 ok6 hr5 hr7 hb57 hb6 hb7 ra6 rb6 oa6 ob6 hP5 hm5 hw7 hq HQ
                  go_upto_region 24 with (first
                    | (refine wpList_row_at rfl _ _ rfl q rfl _ _ _ _ hy7 Try.underlying30 rfl rfInfo ?_)
                    | (refine wpList_store_row rfl _ _ _ rfl gm (rfV s (.slice A6 (tickL s.tries s.L).length c6) (.slice B6 (tickL s.tries s.L).length d6)) rfl rfl _ _ hm7 rfInfo rfl (rfV_ones _ _ _ _ _ _ _) ?_)
                    | go_in)
                  obtain ⟨w8, hw8⟩ : ∃ W, W = w7.setRow gm (rfV s (.slice A6 (tickL s.tries s.L).length c6) (.slice B6 (tickL s.tries s.L).length d6)) := ⟨_, rfl⟩
                  have hP8b : PlAt w g gm { s with L := tickL s.tries s.L } { s with L := tickL s.tries s.L } S5 A6 c6 B6 d6 w8 := by rw [hw8]; exact hP8
                  rw [← hw8] at x5 x7 ⊢
                  obtain ⟨K, hK⟩ : ∃ K, K = tickA s.f s.me s.tries s.L := ⟨_, rfl⟩
                  rw [← hK] at x5 x7 ⊢
                  obtain ⟨na, hna⟩ : ∃ n, n = K.length := ⟨_, rfl⟩
                  have hn16 : na ≤ 16 := by rw [hna, hK, asks_len]; have := tick_le s.tries s.L; have := HP.out.ft.ok.1.small; omega
                  rw [← hna]
                  have HNA := Lib.hid hna
                  have HX5 := Lib.hid x5
                  have HX7 := Lib.hid x7
                  have HP8 := Lib.hid hP8b
                  have hnn : ((na : Int) != (na : Int)) = false := by simp
                  clear hw8 hP8 hP8b hK hna x5 x7 hy7 hm7
                  go_wp2
                  go_loopw [21] (fun i wr => ∃ j : Nat, i = .int .i64 j ∧ j ≤ na ∧ Below w8.heap.size w8 wr) (fun i _ => na - (RowKit.intOf i).toNat)
                  case atStart => exact ⟨0, rfl, Nat.zero_le _, Below.refl _ _⟩
                  case round =>
                    obtain ⟨j, rfl, hj, hbj⟩ := hrel
                    by_cases hjz : j < na
                    · have hjl : j < K.length := by rw [← HNA.out]; exact hjz
                      obtain ⟨a5, hA5, _, e5⟩ := (HX5.out.below hbj) j hjl
                      obtain ⟨a7, hA7, _, e7⟩ := (HX7.out.below hbj) j hjl
                      subst hA5 hA7
                      obtain ⟨x, hx⟩ : ∃ x, x = K[j] := ⟨_, rfl⟩
                      rw [← hx] at e5 e7
                      have HE5 := Lib.hid (fun (y : WorldIn (Below wr.heap.size wr)) i v (hi : (akL x)[i]? = some v) => (y.h.cell (World.block_lt_of_cell? _ _ (e5 i v hi))).trans (e5 i v hi))
                      have HE7 := Lib.hid (fun (y : WorldIn (Below wr.heap.size wr)) i v (hi : (akL x)[i]? = some v) => (y.h.cell (World.block_lt_of_cell? _ _ (e7 i v hi))).trans (e7 i v hi))
                      clear hx hjl e5 e7
                      go_upto_region 29 with fail
                      (try simp only [Act.put])
                      refine wp_region_S (Below wr.heap.size wr) (by kernel_rfl) (by kernel_rfl) (Below.refl wr.heap.size wr).drew ?_
                      have ne : Nonempty (WorldIn (Below wr.heap.size wr)) := ⟨⟨_, Below.refl wr.heap.size wr⟩⟩
                      repeat (first
                        | (refine wpQuiet_cells rfl _ _ rfl (a5.add (j * 3)) rfl (akL x) _ HE5.out Try.underlying44 rfl akInfo1 ?_
                           conv => arg 6; simp only [Act.put, List.setIfInBounds_toArray, List.set_cons_zero, List.set_cons_succ])
                        | (refine wpQuiet_cells rfl _ _ rfl (a7.add (j * 3)) rfl (akL x) _ HE7.out Try.underlying43 rfl rakInfo1 ?_
                           conv => arg 6; simp only [Act.put, List.setIfInBounds_toArray, List.set_cons_zero, List.set_cons_succ])
                        | (refine wpQuiet_binop rfl _ _ _ _ _ rfl (akC x) (akC x) rfl rfl (by kernel_rfl) (v := .bool false) (fun W => neqK x W) ?_
                           conv => arg 6; simp only [Act.put, List.setIfInBounds_toArray, List.set_cons_zero, List.set_cons_succ])
                        | go_big_quiet_step (fail))
                      refine wpQuiet_nil ?_
                      intro zz
                      obtain ⟨W, hW⟩ := zz
                      dsimp only
                      clear HE5 HE7 ne
                      go_wp2
                      go_roundw
                      case rel => exact ⟨j + 1, by go_num, by omega, nxt hbj hW⟩
                      case measure => simp [RowKit.intOf]; omega
                    · obtain rfl : j = na := by omega
                      go_wp2
                      go_meet
                      exact ⟨0, { s with L := tickL s.tries s.L }, S5, A6, c6, B6, d6, rfl, rfl, HP8.out.below hbj⟩
                · have q2 : (a.kind == 2) = false := by simpa using h2
                  by_cases h3 : a.kind = 3
                  · have q3 : (a.kind == 3) = true := by simpa using h3
                    clear h0 h1 h2 h3 r0 r1
                    have HC := Lib.hid (clear_any HP.out.ft)
                    go_upto_region 33 with (first
                      | (go_at_call 15; refine HC.out.mono ?_; rintro e5 w5 ⟨rfl, hF5, hT5⟩)
                      | go_in)
                    have hP5 := HP.out.turn hF5 hT5
                    clear hF5 hT5 HC
                    generalize moreB S wr w5 = S5 at hP5
                    have c4 : w5.cell? ⟨gm, 4, none⟩ = some (.slice A s.L.length c) := hP5.mb.cell 4
                    have c5 : w5.cell? ⟨gm, 5, none⟩ = some (.slice B s.L.length d) := hP5.mb.cell 5
                    have f4 := hP5.mb.frozen 4
                    have f5 := hP5.mb.frozen 5
                    have HP5 := Lib.hid hP5
                    clear hP5
                    go_wp2
                    go_meet
                    exact ⟨0, { s with L := [] }, S5, none, 0, none, 0, rfl, rfl, HP5.out.none_⟩
                  · have q3 : (a.kind == 3) = false := by simpa using h3
                    clear h0 h1 h2 h3 r0 r1
                    go_wp2
                    go_meet
                    exact ⟨0, s, S, A, c, B, d, rfl, rfl, HP.out⟩
          case rest =>
            obtain ⟨e, s2, S2, A2, c2, B2, d2, rfl, rfl, hP2⟩ := hcut
            have hee : (e != e) = false := by simp
            have hz16 := hP2.ft.ok.1.small
            have HW := Lib.hid (wants_any hP2.ft)
            have HP2 := Lib.hid hP2
            obtain ⟨z, hz⟩ : ∃ z, z = s2.L.length := ⟨_, rfl⟩
            rw [← hz] at hz16
            have HZ := Lib.hid hz
            have hzz : ((z : Int) != (z : Int)) = false := by simp
            clear hP2 hz HP HA0 HA1 hfit hadl
            go_upto_region 36 with (first
              | (go_at_call 16; refine HW.out.mono ?_; unfold WantsPost; rintro e5 w5 ⟨v5, rfl, ho5, hb5⟩
                 obtain ⟨A5, c5, rfl, hr5, _⟩ := OwnI.rd ho5)
              | go_in)
            rw [nums_len, ← HZ.out]
            have hP5 := HP2.out.below hb5
            have m4 : w5.cell? ⟨gm, 4, none⟩ = some (.slice A2 z c2) := by rw [HZ.out]; exact hP5.mb.cell 4
            have HR5 := Lib.hid hr5
            have HP5 := Lib.hid hP5
            clear hr5 hP5 ho5 hb5 HW HP2
            go_wp2
            go_loopw [23] (fun i wr => ∃ j : Nat, i = .int .i64 j ∧ j ≤ z ∧ Below w5.heap.size w5 wr) (fun i _ => z - (RowKit.intOf i).toNat)
            case atStart => exact ⟨0, rfl, Nat.zero_le _, Below.refl _ _⟩
            case round =>
              clear m4
              obtain ⟨j, rfl, hj, hbj⟩ := hrel
              have hP6 := HP5.out.below hbj
              by_cases hjz : j < z
              · have hjl : j < (numsOf s2.L).length := by rw [nums_len, ← HZ.out]; exact hjz
                obtain ⟨a5, hA5, _, e5⟩ := RdI.cell (HR5.out.below hbj) hjl
                obtain ⟨a2, hA2, _, e2⟩ := RdI.cell hP6.ra hjl
                have m4 : wr.cell? ⟨gm, 4, none⟩ = some (.slice A2 z c2) := by rw [HZ.out]; exact hP6.mb.cell 4
                subst hA5 hA2
                obtain ⟨x, hx⟩ : ∃ x, x = (numsOf s2.L)[j] := ⟨_, rfl⟩
                rw [← hx] at e5 e2
                have hxx : (x != x) = false := by simp
                clear hx hjl hP6
                go_upto_region 41 with fail
                go_quiet (fail)
                go_wp2
                go_roundw
                case rel => exact ⟨j + 1, by go_num, by omega, L6.below_drewN hbj _⟩
                case measure => simp [RowKit.intOf]; omega
              · obtain rfl : j = z := by omega
                have m4 : wr.cell? ⟨gm, 4, none⟩ = some (.slice A2 j c2) := by rw [HZ.out]; exact hP6.mb.cell 4
                go_wp2
                go_roundw
                case rel => exact ⟨k + 1, s2, S2, A2, c2, B2, d2, by go_num, by omega, hP6⟩
                case measure => simp [RowKit.intOf]; omega
        · obtain rfl : k = n0 := by omega
          go_wp2
          go_ret
          exact ⟨rfl, hP.bw⟩
end Go.Proofs.Ytglnocclhhdbbaa
