/-
  That all amounts together never change, nobody has less than nothing, what was done isn't done again and what is refused changes nothing: the walk.
-/
import Derived.Test.YthkgadjiiapfgaaDoorNamed
set_option linter.unusedSimpArgs false
set_option linter.unusedVariables false
set_option maxRecDepth 10000
namespace Go.Proofs.YthkgadjiiapfgaaDoor
open Go.RowKit Go.Maps Go.Lib
open L2 (less nums chk vlu)
open L3 (Blk)
open L6 (Turn moreB fresh From In)

set_option maxHeartbeats 4000000 in
set_option maxRecDepth 100000 in
theorem keeps_any (A0 : Option Addr) (n0 c0 : Nat) (D0 : Nat → Am) (A1 : Option Addr) (n1 c1 : Nat) (D1 : Nat → Txx) (w : World) (h0 : Ams w A0 n0 D0) (hn0 : n0 ≤ maxLen) (h1 : Txs w A1 n1 D1) (hn1 : n1 ≤ maxLen) (hT : Tabs w) :
    Calls Tryd.prog 3 #[.slice A0 n0 c0, .slice A1 n1 c1] w (gives (.bool true) w) := by
  have HA := Lib.hid (alive_any w hT)
  have HT := Lib.hid (fun w' (hb : Below w.heap.size w w') => hT.kept hb)
  clear hT
  by_cases hq : newE [] (amsL n0 D0) = 0
  · have HN := Lib.hid (fun W (hb : Below w.heap.size w W) => new_ok A0 n0 c0 D0 W (h0.below hb) hn0 hq)
    have hga := fun W (hb : Below w.heap.size w W) => refgreat_any A0 n0 c0 D0 W (h0.below hb) hn0
    have hgx := fun W (hb : Below w.heap.size w W) => greatX_any A1 n1 c1 D1 W (h1.below hb) hn1
    clear hq
    rcases Bool.eq_false_or_eq_true (greatA n0 D0) with ha | ha
    · rw [ha] at hga
      have HGA := Lib.hid hga
      clear hga hgx ha
      go_enter Tryd.func3, Tryd.ntmps3
      go_wp2_with (first
        | (go_at_call 6; refine HA.out.mono ?_; unfold gives; rintro e w1 ⟨rfl, hb1⟩)
        | (go_at_call 7; refine (HN.out _ hb1).mono ?_; rintro e w2 ⟨g, rfl, hs2, hb2⟩; have hb3 := nxt hb1 hb2)
        | (go_at_call 8; refine (HGA.out _ hb3).mono ?_; unfold gives; rintro e w4 ⟨rfl, hb4⟩)
        | go_in)
      go_ret
      exact ⟨rfl, nxt hb3 hb4⟩
    rw [ha] at hga
    have HGA := Lib.hid hga
    rcases Bool.eq_false_or_eq_true (greatX n1 D1) with hx | hx
    · rw [hx] at hgx
      have HGX := Lib.hid hgx
      clear hga hgx ha hx
      go_enter Tryd.func3, Tryd.ntmps3
      go_wp2_with (first
        | (go_at_call 6; refine HA.out.mono ?_; unfold gives; rintro e w1 ⟨rfl, hb1⟩)
        | (go_at_call 7; refine (HN.out _ hb1).mono ?_; rintro e w2 ⟨g, rfl, hs2, hb2⟩; have hb3 := nxt hb1 hb2)
        | (go_at_call 8; refine (HGA.out _ hb3).mono ?_; unfold gives; rintro e w4 ⟨rfl, hb4⟩; have hb5 := nxt hb3 hb4)
        | (go_at_call 9; refine (HGX.out _ hb5).mono ?_; unfold gives; rintro e w6 ⟨rfl, hb6⟩)
        | go_in)
      go_ret
      exact ⟨rfl, nxt hb5 hb6⟩
    rw [hx] at hgx
    have HGX := Lib.hid hgx
    obtain ⟨hl0, _⟩ := greatA_not ha
    obtain ⟨hl1, hgr⟩ := greatX_not hx
    have HR := Lib.hid hgr
    clear hga hgx ha hx hgr
    go_enter Tryd.func3, Tryd.ntmps3
    go_wp2_with (first
      | (go_at_call 6; refine HA.out.mono ?_; unfold gives; rintro e w1 ⟨rfl, hb1⟩)
      | (go_at_call 7; refine (HN.out _ hb1).mono ?_; rintro e w2 ⟨g, rfl, hs2, hb2⟩; have hb3 := nxt hb1 hb2
         obtain ⟨σ0, hσ0⟩ : ∃ σ0, σ0 = (⟨(amsL n0 D0).map acc0, []⟩ : Stt) := ⟨_, rfl⟩
         rw [← hσ0] at hs2
         clear hσ0
         have hi2 : In w2 (fresh w1 w2) := In.fresh _ _)
      | (go_at_call 8; refine (HGA.out _ hb3).mono ?_; unfold gives; rintro e w4 ⟨rfl, hb4⟩; have hb5 := nxt hb3 hb4; have hs4 := hs2.below hb4)
      | (go_at_call 9; refine (HGX.out _ hb5).mono ?_; unfold gives; rintro e w6 ⟨rfl, hb6⟩; have hb7 := nxt hb5 hb6; have hs6 := hs4.below hb6
         obtain ⟨tt, htt⟩ : ∃ tt, tt = totA σ0.A := ⟨_, rfl⟩
         have HTT := Lib.hid htt
         clear htt)
      | (go_at_call 10; refine (total_is hs6 HTT).mono ?_; unfold gives; rintro e w8 ⟨rfl, hb8⟩; have hb9 := nxt hb7 hb8; have hs8 := hs6.below hb8)
      | go_in)
    have hi8 : In w8 (fresh w1 w2) := hi2.le (Nat.le_trans hb4.size (Nat.le_trans hb6.size hb8.size))
    have hf8 : From w.heap.size (fresh w1 w2) := fun k hk => Nat.le_trans hb1.size hk.1
    go_loopw [8] (fun i wr => ∃ (k : Nat) (S : Nat → Prop) (σ : Stt), i = .int .i64 k ∧ k ≤ n1 ∧ Sx wr S g σ (n0 + 4 * k) ∧ In wr S ∧ From w.heap.size S ∧ Hid (tt = totA σ.A) ∧ Below w.heap.size w wr)
      (fun i _ => n1 - (intOf i).toNat)
    case atStart => exact ⟨0, _, σ0, rfl, Nat.zero_le _, hs8.le (by omega), hi8, hf8, HTT, hb9⟩
    case round =>
      obtain ⟨k, S, σ, rfl, hk, hs, hi, hf, htt, hbw⟩ := hrel
      by_cases hlt : k < n1
      · obtain ⟨ad, rfl, hadl, hcs, hwf0⟩ := (h1.below hbw) k hlt
        have hwf := (great_wf hwf0 (HR.out k hlt))
        obtain ⟨t, ht⟩ : ∃ t, t = D1 k := ⟨_, rfl⟩
        rw [← ht] at hcs hwf
        have hwf6 := hwf.le (show 1000 ≤ 1000000 by omega)
        have hsane := hs.2
        have k1 := box_new wr 33 t
        have hbB := below_box (w := wr) 33 t
        clear ht hwf hwf0
        go_upto_region 11 with (first
          | (refine wpList_cells_at rfl _ _ rfl (ad.add (k * 7)) rfl (txL t) _ hcs Tryd.underlying33 rfl txInfo ?_)
          | (refine wpList_store_new rfl _ _ _ rfl _ (txC t) rfl rfl _ _ txInfo rfl (txC_ones _) ?_)
          | go_in)
        try simp only [Act.put]
        obtain ⟨wB, hwB⟩ : ∃ wB, wB = wr.alloc (.cells (txC t) 33) := ⟨_, rfl⟩
        rw [← hwB] at k1 hbB
        rw [← hwB]
        clear hwB hcs
        have hsB := hs.below hbB
        have hiB : In wB S := hi.le hbB.size
        have hbB2 := hbw.trans (hbB.mono hbw.size)
        have hm : n0 + 4 * k ≤ 1000 := by omega
        have hSk : ¬ S wr.heap.size := fun h => absurd (hi _ h) (Nat.lt_irrefl _)
        obtain ⟨x0, hx0⟩ : ∃ x0, x0 = digT less σ := ⟨_, rfl⟩
        have HX0 := Lib.hid hx0
        obtain ⟨nn, hnn⟩ : ∃ nn, nn = (ofA σ.A t.frm).no := ⟨_, rfl⟩
        have HNN := Lib.hid hnn
        have hnb := nonce_of hsane.nonce t.frm
        have hn0' := (hsane.full.of t.frm).2
        rw [← hnn] at hnb hn0'
        have hw : wrap64 (nn + 1) = nn + 1 := IntWalk.wrap64_in _ ⟨by omega, by omega⟩
        have hfl : t.frm.length ≤ 1000000 := hwf6.2.1
        have htl : t.to.length ≤ 1000000 := hwf6.2.2.1
        have htotal := do_total hsane.ok t
        have hfull := do_full hsane.full t
        by_cases he : doE σ t = 0
        · have HE := Lib.hid he.symm
          obtain ⟨σ1, h1z⟩ : ∃ σ1, σ1 = doS σ t := ⟨_, rfl⟩
          have HZ := Lib.hid h1z
          have h90 := do_once he
          have hno := do_nonce he
          obtain ⟨_, htn, _⟩ := doE_ok he
          rw [← hnn] at htn hno
          rw [← h1z] at h90 hno htotal hfull
          have HE2 := Lib.hid h90.symm
          have HZ2 : Hid (σ1 = doS σ1 t) := Lib.hid (doS_no (by omega)).symm
          have HN1 : Hid (nn + 1 = (ofA σ1.A t.frm).no) := Lib.hid hno.symm
          have HT1 : Hid (tt = totA σ1.A) := Lib.hid (by rw [htt.out, htotal])
          obtain ⟨af, haf⟩ : ∃ af, af = (ofA σ1.A t.frm).am := ⟨_, rfl⟩
          obtain ⟨at', hat⟩ : ∃ at', at' = (ofA σ1.A t.to).am := ⟨_, rfl⟩
          have q1 : ¬ af < 0 := by rw [haf]; have := (hfull.of t.frm).1; omega
          have q2 : ¬ at' < 0 := by rw [hat]; have := (hfull.of t.to).1; omega
          have HAF := Lib.hid haf
          have HAT := Lib.hid hat
          have q6 : (t.nonce != nn + 1) = false := by rw [htn]; simp
          clear hx0 hnn he h1z h90 hno htn htotal hfull haf hat hsane hn0' hnb
          go_wp2_with (first
            | (refine wpList_row_at rfl _ _ rfl wr.heap.size rfl _ _ _ _ k1 Tryd.underlying33 rfl txInfo ?_)
            | (go_at_call 11; refine (text_is hsB (HT.out _ hbB2) (by omega) HX0).mono ?_; unfold gives; rintro e v2 ⟨rfl, vb2⟩
               have vs2 := hsB.below vb2
               have vi2 : In v2 S := hiB.le vb2.size
               have vk2 := k1.below vb2 k1.lt
               have vw2 := nxt hbB2 vb2
               clear k1
               have k1 := vk2
               obtain ⟨d0, d1, d2, d3, d4, d5, d6⟩ := box_of k1)
            | (go_at_call 12; first
                | ((with_reducible refine (nonce_is vs2 t.frm hfl HNN).mono ?_); rintro e v3 ⟨rfl, rfl⟩)
                | ((with_reducible refine (nonce_is vs4 t.frm hfl HN1).mono ?_); rintro e v3 ⟨rfl, rfl⟩))
            | (go_at_call 13; first
                | ((with_reducible refine (do_is vs2 vi2 t hwf6 (HT.out _ vw2) (by unfold maxLen; omega) HE HZ).mono ?_); rintro e v4 ⟨rfl, vs4, vi4, vt4⟩
                   have vk4 := vt4.blk k1 hSk
                   have vw4 := L6.nxtT vw2 vt4 hf
                   have vf4 : From w.heap.size (moreB S v2 v4) := hf.more vw2.size
                   have hk4 : ¬ moreB S v2 v4 wr.heap.size := fun h => h.elim hSk (fun h => by have := h.1; have := k1.lt; omega)
                   clear k1 d0 d1 d2 d3 d4 d5 d6
                   have k1 := vk4
                   clear vk4
                   obtain ⟨d0, d1, d2, d3, d4, d5, d6⟩ := box_of k1)
                | ((with_reducible refine (do_is vs4 vi4 t hwf6 (HT.out _ vw4) (by unfold maxLen; omega) HE2 HZ2).mono ?_); rintro e v6 ⟨rfl, vs6, vi6, vt6⟩
                   have vk6 := vt6.blk k1 hk4
                   have vw6 := L6.nxtT vw4 vt6 vf4
                   have vf6 := vf4.more (w' := v6) vw4.size
                   clear k1 d0 d1 d2 d3 d4 d5 d6
                   have k1 := vk6
                   clear vk6))
            | (go_at_call 10; refine (total_is vs6 HT1).mono ?_; unfold gives; rintro e v8 ⟨rfl, vb8⟩
               have vs8 := vs6.below vb8
               have vk8 := k1.below vb8 k1.lt
               have vw8 := nxt vw6 vb8
               obtain ⟨d0, d1, d2, d3, d4, d5, d6⟩ := box_of vk8)
            | (go_at_call 14; first
                | ((with_reducible refine (amount_is vs8 t.frm hfl HAF).mono ?_); rintro e v9 ⟨rfl, rfl⟩)
                | ((with_reducible refine (amount_is vs8 t.to htl HAT).mono ?_); rintro e v9 ⟨rfl, rfl⟩))
            | go_in)
          go_roundw
          case rel => exact ⟨k + 1, _, σ1, by go_num, by omega, vs8.le (by omega), vi6.le vb8.size, vf6, HT1, vw8⟩
          case measure => simp [intOf]; omega
        · obtain ⟨q, hq⟩ : ∃ q, q = doE σ t := ⟨_, rfl⟩
          have HE := Lib.hid hq
          have HZ : Hid (σ = doS σ t) := Lib.hid (doS_no he).symm
          rw [← hq] at he
          have q0 : (q != 0) = true := by rw [bne_iff_ne]; exact he
          have q3 : (q == 0) = false := by rw [beq_eq_false_iff_ne]; exact he
          have q4 : ((str x0).toList != (str x0).toList) = false := by simp
          obtain ⟨af, haf⟩ : ∃ af, af = (ofA σ.A t.frm).am := ⟨_, rfl⟩
          obtain ⟨at', hat⟩ : ∃ at', at' = (ofA σ.A t.to).am := ⟨_, rfl⟩
          have q1 : ¬ af < 0 := by rw [haf]; have := (hsane.full.of t.frm).1; omega
          have q2 : ¬ at' < 0 := by rw [hat]; have := (hsane.full.of t.to).1; omega
          have HAF := Lib.hid haf
          have HAT := Lib.hid hat
          clear hx0 hnn he hq htotal hfull haf hat hsane hn0' hnb
          go_wp2_with (first
            | (refine wpList_row_at rfl _ _ rfl wr.heap.size rfl _ _ _ _ k1 Tryd.underlying33 rfl txInfo ?_)
            | (go_at_call 11; first
                | ((with_reducible refine (text_is hsB (HT.out _ hbB2) (by omega) HX0).mono ?_); unfold gives; rintro e v2 ⟨rfl, vb2⟩
                   have vs2 := hsB.below vb2
                   have vi2 : In v2 S := hiB.le vb2.size
                   have vk2 := k1.below vb2 k1.lt
                   have vw2 := nxt hbB2 vb2
                   clear k1
                   have k1 := vk2
                   obtain ⟨d0, d1, d2, d3, d4, d5, d6⟩ := box_of k1)
                | ((with_reducible refine (text_is vs4 (HT.out _ vw4) (by omega) HX0).mono ?_); unfold gives; rintro e v6 ⟨rfl, vb6⟩
                   have vs6 := vs4.below vb6
                   have vi6 := vi4.le vb6.size
                   have vk6 := k1.below vb6 k1.lt
                   have vw6 := nxt vw4 vb6
                   clear k1 d0 d1 d2 d3 d4 d5 d6
                   have k1 := vk6))
            | (go_at_call 12; refine (nonce_is vs2 t.frm hfl HNN).mono ?_; rintro e v3 ⟨rfl, rfl⟩)
            | (go_at_call 13; refine (do_is vs2 vi2 t hwf6 (HT.out _ vw2) (by unfold maxLen; omega) HE HZ).mono ?_; rintro e v4 ⟨rfl, vs4, vi4, vt4⟩
               have vk4 := vt4.blk k1 hSk
               have vw4 := L6.nxtT vw2 vt4 hf
               have vf4 : From w.heap.size (moreB S v2 v4) := hf.more vw2.size
               clear k1 d0 d1 d2 d3 d4 d5 d6
               have k1 := vk4
               clear vk4
               obtain ⟨d0, d1, d2, d3, d4, d5, d6⟩ := box_of k1)
            | (go_at_call 10; refine (total_is vs6 htt).mono ?_; unfold gives; rintro e v8 ⟨rfl, vb8⟩
               have vs8 := vs6.below vb8
               have vk8 := k1.below vb8 k1.lt
               have vw8 := nxt vw6 vb8
               obtain ⟨d0, d1, d2, d3, d4, d5, d6⟩ := box_of vk8)
            | (go_at_call 14; first
                | ((with_reducible refine (amount_is vs8 t.frm hfl HAF).mono ?_); rintro e v9 ⟨rfl, rfl⟩)
                | ((with_reducible refine (amount_is vs8 t.to htl HAT).mono ?_); rintro e v9 ⟨rfl, rfl⟩))
            | go_in)
          go_roundw
          case rel => exact ⟨k + 1, _, σ, by go_num, by omega, vs8.le (by omega), vi6.le vb8.size, vf4, htt, vw8⟩
          case measure => simp [intOf]; omega
      · obtain rfl : k = n1 := by omega
        go_wp2
        go_ret
        exact ⟨rfl, hbw⟩
  · obtain ⟨q, hqe⟩ : ∃ q, q = newE [] (amsL n0 D0) := ⟨_, rfl⟩
    have hN := fun W (hb : Below w.heap.size w W) => new_err A0 n0 c0 D0 W (h0.below hb) hn0 hq
    rw [← hqe] at hq hN
    have HN := Lib.hid hN
    have hq2 : (q != 0) = true := by rw [bne_iff_ne]; exact hq
    clear hqe hq hN
    go_enter Tryd.func3, Tryd.ntmps3
    go_wp2_with (first
      | (go_at_call 6; refine HA.out.mono ?_; unfold gives; rintro e w1 ⟨rfl, hb1⟩)
      | (go_at_call 7; refine (HN.out _ hb1).mono ?_; unfold gives; rintro e w2 ⟨rfl, hb2⟩)
      | go_in)
    go_ret
    exact ⟨rfl, nxt hb1 hb2⟩
end Go.Proofs.YthkgadjiiapfgaaDoor
