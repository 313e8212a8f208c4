/-
  MsgBack, walked: a message comes back from its bytes, and what is parsed is written so.
-/
import Derived.Test.YtgmejaiifibfoaaDoorUseM
set_option linter.unusedSimpArgs false
set_option linter.unusedVariables false
set_option maxRecDepth 10000
namespace Go.Proofs.YtgmejaiifibfoaaDoor
open Go.RowKit Go.Maps Go.Lib
open L3 (Blk Reads)
open L11 (Crt zeroC mayV)

set_option maxHeartbeats 4000000 in
set_option maxRecDepth 100000 in
theorem back_walk (m : Mes) (P Q T : Value) (s : ByteArray) (w : World) (hraw : m.raw) (hl : LiesM w m P Q T) (hs : s.size ≤ 9223372036854775807) (hT : Tabs w) :
    Calls Tryd.prog 3 #[.agg (mesC m P Q T), .string s] w (gives (.bool true) w) := by
  obtain ⟨l, rfl⟩ : ∃ l, s = str l := ⟨s.data.toList, (str_of s).symm⟩
  have hsz := str_size l
  rw [hsz] at hs
  have F0 := Lib.hid (boxM_mk 34 hl)
  have HT := Lib.hid (fun w' (hb : Below w.heap.size w w') => hT.kept hb)
  have HG := Lib.hid (fun W (h : LiesM W m P Q T) => greatM_any m P Q T W hraw h)
  have HSM := Lib.hid (fun hg => greatM_small hraw hg)
  clear hl hT hraw
  go_enter Tryd.func3, Tryd.ntmps3
  go_upto_region 1 with fail
  refine name_world (fun w0 hw0 => ?_)
  have hA0 : BoxM w w.heap.size 34 m P Q T w0 := by rw [hw0]; exact F0.out
  clear hw0 F0
  have hal := aliveM_any w0 (HT.out _ hA0.bw)
  go_upto_region 3 with (first
    | (go_at_call 5; refine hal.mono ?_; unfold gives; rintro e w1 ⟨rfl, hb1⟩))
  have hA1 := hA0.below hb1
  clear hA0 hb1 hal
  have hgr := HG.out w1 hA1.ls
  rcases Bool.eq_false_or_eq_true (greatM m) with hg | hg
  · rw [hg] at hgr
    clear hg HSM HG
    go_wp2_with (first
      | (refine wpList_row_at rfl _ _ rfl w.heap.size rfl _ _ _ _ hA1.bb Tryd.underlying34 rfl mesInfoR ?_)
      | (go_at_call 6; refine hgr.mono ?_; unfold gives; rintro e w2 ⟨rfl, hb2⟩))
    go_ret
    exact ⟨rfl, nxt hA1.bw hb2⟩
  have hwf := HSM.out hg
  rw [hg] at hgr
  have HWF := Lib.hid hwf
  clear hg HSM HG hwf
  by_cases hlen : 6000 < l.length
  · go_wp2_with (first
      | (refine wpList_row_at rfl _ _ rfl w.heap.size rfl _ _ _ _ hA1.bb Tryd.underlying34 rfl mesInfoR ?_)
      | (go_at_call 6; refine hgr.mono ?_; unfold gives; rintro e w2 ⟨rfl, hb2⟩))
    go_ret
    exact ⟨rfl, nxt hA1.bw hb2⟩
  go_upto_region 5 with (first
    | (refine wpList_row_at rfl _ _ rfl w.heap.size rfl _ _ _ _ hA1.bb Tryd.underlying34 rfl mesInfoR ?_)
    | (go_at_call 6; refine hgr.mono ?_; unfold gives; rintro e w2 ⟨rfl, hb2⟩))
  have hA2 := hA1.below hb2
  have HLEN := Lib.hid hlen
  clear hA1 hb2 hgr hlen
  rcases (Bool.eq_false_or_eq_true (mayM m)).symm with h0 | h0
  · have hno := bytesM_no m _ _ _ w2 HWF.out hA2.ls (HT.out _ hA2.bw) h0
    clear h0
    go_upto_region 10 with (first
      | (refine wpList_row_at rfl _ _ rfl w.heap.size rfl _ _ _ _ hA2.bb Tryd.underlying34 rfl mesInfoR ?_)
      | (go_at_call 7; refine hno.mono ?_; unfold gives; rintro e w3 ⟨rfl, hb3⟩))
    have hbw := nxt hA2.bw hb3
    clear hA2 hno hb3 HWF
    have hpr := parse_twoM l (parseM l) w3 (HT.out _ hbw) (by have := HLEN.out; omega) rfl
    have hcan := parseM_canon (s := l)
    have hpn := parseM_no (s := l)
    obtain ⟨z, hz⟩ : ∃ z, z = parseM l := ⟨_, rfl⟩
    rw [← hz] at hpr hcan hpn
    obtain ⟨m2, f⟩ := z
    dsimp only at hpr hcan hpn
    have HPR := Lib.hid hpr
    clear hpr hz
    by_cases hf : f = 0
    · obtain ⟨hk, hbb⟩ := hcan hf
      have HK := Lib.hid (And.intro hk hbb)
      subst hf
      clear hcan hpn hk hbb
      go_upto_region 13 with (first
        | (go_at_call 8; refine HPR.out.mono ?_; rintro e w4 ⟨A4, n4, c4, B4, b4, d4, C4, f4, g4, rfl, hL4, hb4⟩)
        | (refine wpList_store_new rfl _ _ _ rfl _ (mesC m2 (.slice A4 n4 c4) (.slice B4 b4 d4) (.slice C4 f4 g4)) rfl rfl _ _ mesInfo rfl (mesC_ones _ _ _ _ _ _ _ _ _ _) ?_))
      have hb5 := below_new w4 (.cells (mesC m2 (.slice A4 n4 c4) (.slice B4 b4 d4) (.slice C4 f4 g4)) 40)
      have k5 := mes_new w4 40 m2 (.slice A4 n4 c4) (.slice B4 b4 d4) (.slice C4 f4 g4)
      have hL5 := hL4.below hb5
      have hbw5 := nxt (nxt hbw hb4) hb5
      obtain ⟨G2, hG⟩ : ∃ G, G = w4.heap.size := ⟨_, rfl⟩
      rw [← hG] at k5
      rw [← hG]
      refine name_world (fun w5 hw5 => ?_)
      rw [← hw5] at k5 hL5 hbw5
      clear hG hw5 hb5 hb4 hL4 HPR hbw
      have hby := bytesM_ok m2 _ _ _ w5 (mayM_wf HK.out.1) hL5 (HT.out _ hbw5) HK.out.1
      rw [HK.out.2] at hby
      have hsl := same_selfM l
      clear hL5
      go_wp2_with (first
        | (refine wpList_row_at rfl _ _ rfl G2 rfl _ _ _ _ k5 Tryd.underlying40 rfl mesInfo ?_)
        | (go_at_call 7; refine hby.mono ?_; unfold tells; rintro e w6 ⟨rfl, hb6⟩))
      go_ret
      exact ⟨rfl, nxt hbw5 hb6⟩
    · have hb2 := hpn hf
      subst hb2
      have q1 : (f != 0) = true := by simpa using hf
      have q2 : (f == 0) = false := by simpa using hf
      clear hcan hpn hf
      go_upto_region 12 with (first
        | (go_at_call 8; refine HPR.out.mono ?_; rintro e w4 ⟨A4, n4, c4, B4, b4, d4, C4, f4, g4, rfl, hL4, hb4⟩)
        | (refine wpList_store_new rfl _ _ _ rfl _ (mesC zeroM (.slice A4 n4 c4) (.slice B4 b4 d4) (.slice C4 f4 g4)) rfl rfl _ _ mesInfo rfl (mesC_ones _ _ _ _ _ _ _ _ _ _) ?_))
      have hb5 := below_new w4 (.cells (mesC zeroM (.slice A4 n4 c4) (.slice B4 b4 d4) (.slice C4 f4 g4)) 40)
      have k5 := mes_new w4 40 zeroM (.slice A4 n4 c4) (.slice B4 b4 d4) (.slice C4 f4 g4)
      have hL5 := hL4.below hb5
      have hbw5 := nxt (nxt hbw hb4) hb5
      obtain ⟨G2, hG⟩ : ∃ G, G = w4.heap.size := ⟨_, rfl⟩
      rw [← hG] at k5
      rw [← hG]
      refine name_world (fun w5 hw5 => ?_)
      rw [← hw5] at k5 hL5 hbw5
      clear hG hw5 hb5 hb4 hL4 HPR hbw
      have hsm := sameM_any zeroM zeroM _ _ _ nS0 nS0 nS0 w5 zeroM_wf zeroM_wf hL5 (liesM_zero w5 _ rfl rfl)
      rw [sameMV_refl] at hsm
      have HSM2 := Lib.hid hsm
      clear hsm hL5
      go_wp2_with (first
        | (refine wpList_row_at rfl _ _ rfl G2 rfl _ _ _ _ k5 Tryd.underlying40 rfl mesInfo ?_)
        | (refine wpList_build rfl _ _ rfl #[] rfl (build_m0 _) ?_)
        | (go_at_call 9; refine HSM2.out.mono ?_; unfold gives; rintro e w6 ⟨rfl, hb6⟩))
      go_ret
      exact ⟨rfl, nxt hbw5 hb6⟩
  have hby := bytesM_ok m _ _ _ w2 HWF.out hA2.ls (HT.out _ hA2.bw) h0
  have hpb := parseM_back m h0
  have hbl := bytesM_len h0
  obtain ⟨y, hy⟩ : ∃ y, y = bytesM m := ⟨_, rfl⟩
  rw [← hy] at hby hpb hbl
  have HPB := Lib.hid hpb
  clear hpb hy h0
  go_upto_region 7 with (first
    | (refine wpList_row_at rfl _ _ rfl w.heap.size rfl _ _ _ _ hA2.bb Tryd.underlying34 rfl mesInfoR ?_)
    | (go_at_call 7; refine hby.mono ?_; unfold tells; rintro e w3 ⟨rfl, hb3⟩))
  have hA3 := hA2.below hb3
  have hpr := parse_twoM y (m, 0) w3 (HT.out _ hA3.bw) (by omega) HPB.out.symm
  have HPR := Lib.hid hpr
  clear hA2 hby hb3 hpr hbl
  go_upto_region 8 with (first
    | (go_at_call 8; refine HPR.out.mono ?_; dsimp only; rintro e w4 ⟨A4, n4, c4, B4, b4, d4, C4, f4, g4, rfl, hL4, hb4⟩)
    | (refine wpList_store_new rfl _ _ _ rfl _ (mesC m (.slice A4 n4 c4) (.slice B4 b4 d4) (.slice C4 f4 g4)) rfl rfl _ _ mesInfo rfl (mesC_ones _ _ _ _ _ _ _ _ _ _) ?_))
  have hb5 := below_new w4 (.cells (mesC m (.slice A4 n4 c4) (.slice B4 b4 d4) (.slice C4 f4 g4)) 40)
  have k5 := mes_new w4 40 m (.slice A4 n4 c4) (.slice B4 b4 d4) (.slice C4 f4 g4)
  have hA5 := (hA3.below hb4).below hb5
  have hL5 := hL4.below hb5
  obtain ⟨G, hG⟩ : ∃ G, G = w4.heap.size := ⟨_, rfl⟩
  rw [← hG] at k5
  rw [← hG]
  refine name_world (fun w5 hw5 => ?_)
  rw [← hw5] at k5 hA5 hL5
  clear hG hw5 hb5 hA3 hb4 hL4 HPR HPB
  have hsm := sameM_any m m _ _ _ _ _ _ w5 HWF.out HWF.out hL5 hA5.ls
  rw [sameMV_refl] at hsm
  have HSM := Lib.hid hsm
  clear hsm hL5
  go_upto_region 10 with (first
    | (refine wpList_row_at rfl _ _ rfl w.heap.size rfl _ _ _ _ hA5.bb Tryd.underlying34 rfl mesInfoR ?_)
    | (refine wpList_row_at rfl _ _ rfl G rfl _ _ _ _ k5 Tryd.underlying40 rfl mesInfo ?_)
    | (go_at_call 9; refine HSM.out.mono ?_; unfold gives; rintro e w6 ⟨rfl, hb6⟩))
  have hbw := nxt hA5.bw hb6
  clear hA5 k5 hb6 HSM HWF
  have hpr := parse_twoM l (parseM l) w6 (HT.out _ hbw) (by have := HLEN.out; omega) rfl
  have hcan := parseM_canon (s := l)
  have hpn := parseM_no (s := l)
  obtain ⟨z, hz⟩ : ∃ z, z = parseM l := ⟨_, rfl⟩
  rw [← hz] at hpr hcan hpn
  obtain ⟨m2, f⟩ := z
  dsimp only at hpr hcan hpn
  have HPR := Lib.hid hpr
  clear hpr hz
  by_cases hf : f = 0
  · obtain ⟨hk, hbb⟩ := hcan hf
    have HK := Lib.hid (And.intro hk hbb)
    subst hf
    clear hcan hpn hk hbb
    go_upto_region 13 with (first
      | (go_at_call 8; refine HPR.out.mono ?_; rintro e w4 ⟨A4, n4, c4, B4, b4, d4, C4, f4, g4, rfl, hL4, hb4⟩)
      | (refine wpList_store_new rfl _ _ _ rfl _ (mesC m2 (.slice A4 n4 c4) (.slice B4 b4 d4) (.slice C4 f4 g4)) rfl rfl _ _ mesInfo rfl (mesC_ones _ _ _ _ _ _ _ _ _ _) ?_))
    have hb5 := below_new w4 (.cells (mesC m2 (.slice A4 n4 c4) (.slice B4 b4 d4) (.slice C4 f4 g4)) 40)
    have k5 := mes_new w4 40 m2 (.slice A4 n4 c4) (.slice B4 b4 d4) (.slice C4 f4 g4)
    have hL5 := hL4.below hb5
    have hbw5 := nxt (nxt hbw hb4) hb5
    obtain ⟨G2, hG⟩ : ∃ G, G = w4.heap.size := ⟨_, rfl⟩
    rw [← hG] at k5
    rw [← hG]
    refine name_world (fun w5 hw5 => ?_)
    rw [← hw5] at k5 hL5 hbw5
    clear hG hw5 hb5 hb4 hL4 HPR hbw
    have hby := bytesM_ok m2 _ _ _ w5 (mayM_wf HK.out.1) hL5 (HT.out _ hbw5) HK.out.1
    rw [HK.out.2] at hby
    have hsl := same_selfM l
    clear hL5
    go_wp2_with (first
      | (refine wpList_row_at rfl _ _ rfl G2 rfl _ _ _ _ k5 Tryd.underlying40 rfl mesInfo ?_)
      | (go_at_call 7; refine hby.mono ?_; unfold tells; rintro e w6 ⟨rfl, hb6⟩))
    go_ret
    exact ⟨rfl, nxt hbw5 hb6⟩
  · have hb2 := hpn hf
    subst hb2
    have q1 : (f != 0) = true := by simpa using hf
    have q2 : (f == 0) = false := by simpa using hf
    clear hcan hpn hf
    go_upto_region 12 with (first
      | (go_at_call 8; refine HPR.out.mono ?_; rintro e w4 ⟨A4, n4, c4, B4, b4, d4, C4, f4, g4, rfl, hL4, hb4⟩)
      | (refine wpList_store_new rfl _ _ _ rfl _ (mesC zeroM (.slice A4 n4 c4) (.slice B4 b4 d4) (.slice C4 f4 g4)) rfl rfl _ _ mesInfo rfl (mesC_ones _ _ _ _ _ _ _ _ _ _) ?_))
    have hb5 := below_new w4 (.cells (mesC zeroM (.slice A4 n4 c4) (.slice B4 b4 d4) (.slice C4 f4 g4)) 40)
    have k5 := mes_new w4 40 zeroM (.slice A4 n4 c4) (.slice B4 b4 d4) (.slice C4 f4 g4)
    have hL5 := hL4.below hb5
    have hbw5 := nxt (nxt hbw hb4) hb5
    obtain ⟨G2, hG⟩ : ∃ G, G = w4.heap.size := ⟨_, rfl⟩
    rw [← hG] at k5
    rw [← hG]
    refine name_world (fun w5 hw5 => ?_)
    rw [← hw5] at k5 hL5 hbw5
    clear hG hw5 hb5 hb4 hL4 HPR hbw
    have hsm := sameM_any zeroM zeroM _ _ _ nS0 nS0 nS0 w5 zeroM_wf zeroM_wf hL5 (liesM_zero w5 _ rfl rfl)
    rw [sameMV_refl] at hsm
    have HSM2 := Lib.hid hsm
    clear hsm hL5
    go_wp2_with (first
      | (refine wpList_row_at rfl _ _ rfl G2 rfl _ _ _ _ k5 Tryd.underlying40 rfl mesInfo ?_)
      | (refine wpList_build rfl _ _ rfl #[] rfl (build_m0 _) ?_)
      | (go_at_call 9; refine HSM2.out.mono ?_; unfold gives; rintro e w6 ⟨rfl, hb6⟩))
    go_ret
    exact ⟨rfl, nxt hbw5 hb6⟩
end Go.Proofs.YtgmejaiifibfoaaDoor
