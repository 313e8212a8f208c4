/-
  BlockBack, walked: a block comes back from its bytes, and what is parsed is written so.
-/
import Derived.Test.YtkjkkbionlmohaaDoorAlive
import Derived.Test.YtkjkkbionlmohaaDoorGreatB
import Derived.Test.YtkjkkbionlmohaaDoorSameB
set_option linter.unusedSimpArgs false
set_option linter.unusedVariables false
set_option maxRecDepth 10000
namespace Go.Proofs.YtkjkkbionlmohaaDoor
open Go.RowKit Go.Maps Go.Lib
open L3 (Blk Reads)
open L11 (Crt zeroC)

/-- What Parse tells of bytes, opened. -/
theorem parse_two (l : List UInt8) (z : Blo × Int) (w : World) (hT : Tabs w) (hl : l.length ≤ 100000) (hz : z = parseB l) : Calls Tryd.prog 18 #[.string (str l)] w fun e w' => ∃ A c B d, e = .returned (.tuple #[.agg (bloC z.1 (.slice A z.1.proof.length c) (.slice B z.1.txs.length d)), .int .i64 z.2]) ∧ Rd tmL 10 w' A z.1.proof ∧ Rd txL 7 w' B z.1.txs ∧ Below w.heap.size w w' := by
  refine (parseB_any l w (by omega) hT).mono ?_
  rintro e w' ⟨P, T, rfl, ⟨A, c, D, d, h1, h2, h3, h4⟩, hb⟩
  rw [← hz] at h1 h2 h3 h4 ⊢
  subst h1 h2
  exact ⟨A, c, D, d, rfl, h3, h4, hb⟩
theorem conv_made {w : World} {A : Option Addr} {n c : Nat} {l : List UInt8} (h : Reads w w.heap.size 1 A n (Lib.byteCells l)) (hn : n = l.length) : (convert 33 9 (.slice A n c)).run Tryd.prog w = .ok (.string (str l)) w := by
  subst hn
  have := L3.conv_reads (c := c) h (Nat.le_refl _)
  rw [List.take_length] at this
  exact this
theorem same_self (l : List UInt8) : ((str l).toList == (str l).toList) = true := by simp
set_option maxHeartbeats 4000000 in
set_option maxRecDepth 100000 in
theorem back_walk (b : Blo) (A : Option Addr) (c : Nat) (B : Option Addr) (d : Nat) (s : ByteArray) (w : World) (hraw : b.raw) (hp : Rd tmL 10 w A b.proof) (ht : Rd txL 7 w B b.txs) (hs : s.size ≤ 9223372036854775807) (hT : Tabs w) :
    Calls Tryd.prog 5 #[.agg (bloC b (.slice A b.proof.length c) (.slice B b.txs.length d)), .string s] w (gives (.bool true) w) := by
  obtain ⟨l, rfl⟩ : ∃ l, s = str l := ⟨s.data.toList, (str_of s).symm⟩
  have hsz := str_size l
  rw [hsz] at hs
  have F0 := Lib.hid (boxB_mk (c := c) (d := d) hp ht)
  have HT := Lib.hid (fun w' (hb : Below w.heap.size w w') => hT.kept hb)
  have HG := Lib.hid (fun W (h : BoxB w w.heap.size b A c B d W) => greatK_any b A c B d W hraw h.rp h.rt)
  have HSM := Lib.hid (fun hg => great_small hraw hg)
  clear hp ht hT hraw
  go_enter Tryd.func5, Tryd.ntmps5
  go_upto_region 1 with fail
  refine name_world (fun w0 hw0 => ?_)
  have hA0 : BoxB w w.heap.size b A c B d w0 := by rw [hw0]; exact F0.out
  clear hw0 F0
  have hal := alive_any w0 (HT.out _ hA0.bw)
  go_upto_region 3 with (first
    | (go_at_call 7; refine hal.mono ?_; unfold gives; rintro e w1 ⟨rfl, hb1⟩))
  have hA1 := hA0.below hb1
  clear hA0 hb1 hal
  have hgr := HG.out w1 hA1
  rcases Bool.eq_false_or_eq_true (greatK b) with hg | hg
  · rw [hg] at hgr
    clear hg HSM HG
    go_wp2_with (first
      | (refine wpList_row_at rfl _ _ rfl w.heap.size rfl _ _ _ _ hA1.bb Tryd.underlying28 rfl bloInfo ?_)
      | (go_at_call 8; refine hgr.mono ?_; unfold gives; rintro e w2 ⟨rfl, hb2⟩))
    go_ret
    exact ⟨rfl, nxt hA1.bw hb2⟩
  obtain ⟨hwf, hnp, hnt, _⟩ := HSM.out hg
  rw [hg] at hgr
  have HWF := Lib.hid hwf
  clear hg HSM HG hwf hnp hnt
  by_cases hlen : 6000 < l.length
  · go_wp2_with (first
      | (refine wpList_row_at rfl _ _ rfl w.heap.size rfl _ _ _ _ hA1.bb Tryd.underlying28 rfl bloInfo ?_)
      | (go_at_call 8; refine hgr.mono ?_; unfold gives; rintro e w2 ⟨rfl, hb2⟩))
    go_ret
    exact ⟨rfl, nxt hA1.bw hb2⟩
  go_upto_region 5 with (first
    | (refine wpList_row_at rfl _ _ rfl w.heap.size rfl _ _ _ _ hA1.bb Tryd.underlying28 rfl bloInfo ?_)
    | (go_at_call 8; refine hgr.mono ?_; unfold gives; rintro e w2 ⟨rfl, hb2⟩))
  have hA2 := hA1.below hb2
  have HLEN := Lib.hid hlen
  clear hA1 hb2 hgr hlen
  by_cases h0 : checkV b = 0
  case neg =>
    have hno := bytesB_no b _ _ w2 HWF.out ⟨A, c, B, d, rfl, rfl, hA2.rp, hA2.rt⟩ (HT.out _ hA2.bw) h0
    obtain ⟨r, hr⟩ : ∃ r, r = checkV b := ⟨_, rfl⟩
    rw [← hr] at hno h0
    have q1 : (r == 0) = false := by simpa using h0
    have q2 : (r != 0) = true := by simpa using h0
    clear hr h0
    go_upto_region 10 with (first
      | (refine wpList_row_at rfl _ _ rfl w.heap.size rfl _ _ _ _ hA2.bb Tryd.underlying28 rfl bloInfo ?_)
      | (go_at_call 10; refine hno.mono ?_; unfold gives; rintro e w3 ⟨rfl, hb3⟩))
    have hbw := nxt hA2.bw hb3
    clear hA2 hno hb3 q1 q2 HWF
    have hpr := parse_two l (parseB l) w3 (HT.out _ hbw) (by have := HLEN.out; omega) rfl
    have hcan := parse_canon (s := l)
    have hpn := parse_no (s := l)
    obtain ⟨z, hz⟩ : ∃ z, z = parseB l := ⟨_, rfl⟩
    rw [← hz] at hpr hcan hpn
    obtain ⟨b2, f⟩ := z
    dsimp only at hpr hcan hpn
    have HPR := Lib.hid hpr
    clear hpr hz
    by_cases hf : f = 0
    · obtain ⟨hk, hbb⟩ := hcan hf
      have HK := Lib.hid (And.intro hk hbb)
      subst hf
      clear hcan hpn hk hbb
      go_upto_region 13 with (first
        | (go_at_call 18; refine HPR.out.mono ?_; rintro e w4 ⟨A4, c4, B4, d4, rfl, hp4, ht4, hb4⟩)
        | (refine wpList_store_new rfl _ _ _ rfl _ (bloC b2 (.slice A4 b2.proof.length c4) (.slice B4 b2.txs.length d4)) rfl rfl _ _ bloInfo rfl (bloC_ones _ _ _ _ _ _ _) ?_))
      have hb5 := below_new w4 (.cells (bloC b2 (.slice A4 b2.proof.length c4) (.slice B4 b2.txs.length d4)) 28)
      have k5 := blo_new w4 28 b2 (.slice A4 b2.proof.length c4) (.slice B4 b2.txs.length d4)
      have hp5 := hp4.below hb5
      have ht5 := ht4.below hb5
      have hbw5 := nxt (nxt hbw hb4) hb5
      obtain ⟨G2, hG⟩ : ∃ G, G = w4.heap.size := ⟨_, rfl⟩
      rw [← hG] at k5
      rw [← hG]
      refine name_world (fun w5 hw5 => ?_)
      rw [← hw5] at k5 hp5 ht5 hbw5
      clear hG hw5 hb5 hb4 hp4 ht4 HPR hbw
      have hby := bytesB_ok b2 _ _ w5 (checkV_wf HK.out.1) ⟨A4, c4, B4, d4, rfl, rfl, hp5, ht5⟩ (HT.out _ hbw5) HK.out.1
      rw [HK.out.2] at hby
      clear hp5 ht5
      go_upto_region 14 with (first
        | (refine wpList_row_at rfl _ _ rfl G2 rfl _ _ _ _ k5 Tryd.underlying28 rfl bloInfo ?_)
        | (go_at_call 10; refine hby.mono ?_; unfold made; rintro e w6 ⟨A6, c6, rfl, r6, q6, hb6⟩))
      have hcv := conv_made (c := c6) r6 rfl
      have hsl := same_self l
      have hbw6 := nxt hbw5 hb6
      clear r6 q6 hby k5 hb6 hbw5
      go_wp2_with fail
      go_ret
      exact ⟨rfl, hbw6⟩
    · have hb2 := hpn hf
      subst hb2
      have q1 : (f != 0) = true := by simpa using hf
      have q2 : (f == 0) = false := by simpa using hf
      clear hcan hpn hf
      go_upto_region 12 with (first
        | (go_at_call 18; refine HPR.out.mono ?_; rintro e w4 ⟨A4, c4, B4, d4, rfl, hp4, ht4, hb4⟩)
        | (refine wpList_store_new rfl _ _ _ rfl _ (bloC zeroB (.slice A4 zeroB.proof.length c4) (.slice B4 zeroB.txs.length d4)) rfl rfl _ _ bloInfo rfl (bloC_ones _ _ _ _ _ _ _) ?_))
      have hb5 := below_new w4 (.cells (bloC zeroB (.slice A4 zeroB.proof.length c4) (.slice B4 zeroB.txs.length d4)) 28)
      have k5 := blo_new w4 28 zeroB (.slice A4 zeroB.proof.length c4) (.slice B4 zeroB.txs.length d4)
      have hp5 := hp4.below hb5
      have ht5 := ht4.below hb5
      have hbw5 := nxt (nxt hbw hb4) hb5
      obtain ⟨G2, hG⟩ : ∃ G, G = w4.heap.size := ⟨_, rfl⟩
      rw [← hG] at k5
      rw [← hG]
      refine name_world (fun w5 hw5 => ?_)
      rw [← hw5] at k5 hp5 ht5 hbw5
      clear hG hw5 hb5 hb4 hp4 ht4 HPR hbw
      have hsm := sameB_any zeroB zeroB A4 c4 B4 d4 none 0 none 0 w5 zeroB_wf zeroB_wf hp5 ht5 Rd.nil Rd.nil
      rw [sameV_refl] at hsm
      have HSM2 := Lib.hid hsm
      clear hsm hp5 ht5
      go_wp2_with (first
        | (refine wpList_row_at rfl _ _ rfl G2 rfl _ _ _ _ k5 Tryd.underlying28 rfl bloInfo ?_)
        | (refine wpList_build rfl _ _ rfl #[] rfl (build_zeroB _) ?_)
        | (go_at_call 19; refine HSM2.out.mono ?_; unfold gives; rintro e w6 ⟨rfl, hb6⟩))
      go_ret
      exact ⟨rfl, nxt hbw5 hb6⟩
  have hby := bytesB_ok b _ _ w2 HWF.out ⟨A, c, B, d, rfl, rfl, hA2.rp, hA2.rt⟩ (HT.out _ hA2.bw) h0
  have hpb := parse_back b h0
  have hbl := bytesB_len h0
  obtain ⟨y, hy⟩ : ∃ y, y = bytesB b := ⟨_, rfl⟩
  rw [← hy] at hby hpb hbl
  have HPB := Lib.hid hpb
  clear hpb hy h0
  go_upto_region 7 with (first
    | (refine wpList_row_at rfl _ _ rfl w.heap.size rfl _ _ _ _ hA2.bb Tryd.underlying28 rfl bloInfo ?_)
    | (go_at_call 10; refine hby.mono ?_; unfold made; rintro e w3 ⟨A3, c3, rfl, r3, q3, hb3⟩))
  have hA3 := hA2.below hb3
  have hcv := conv_made (c := c3) r3 rfl
  have hpr := parse_two y (b, 0) w3 (HT.out _ hA3.bw) (by omega) HPB.out.symm
  have HPR := Lib.hid hpr
  clear hA2 hby hb3 r3 q3 hpr hbl
  go_upto_region 8 with (first
    | (go_at_call 18; refine HPR.out.mono ?_; dsimp only; rintro e w4 ⟨A4, c4, B4, d4, rfl, hp4, ht4, hb4⟩)
    | (refine wpList_store_new rfl _ _ _ rfl _ (bloC b (.slice A4 b.proof.length c4) (.slice B4 b.txs.length d4)) rfl rfl _ _ bloInfo rfl (bloC_ones _ _ _ _ _ _ _) ?_))
  have hb5 := below_new w4 (.cells (bloC b (.slice A4 b.proof.length c4) (.slice B4 b.txs.length d4)) 28)
  have k5 := blo_new w4 28 b (.slice A4 b.proof.length c4) (.slice B4 b.txs.length d4)
  have hA5 := (hA3.below hb4).below hb5
  have hp5 := hp4.below hb5
  have ht5 := ht4.below hb5
  obtain ⟨G, hG⟩ : ∃ G, G = w4.heap.size := ⟨_, rfl⟩
  rw [← hG] at k5
  rw [← hG]
  refine name_world (fun w5 hw5 => ?_)
  rw [← hw5] at k5 hA5 hp5 ht5
  clear hG hw5 hb5 hA3 hb4 hp4 ht4 hcv HPR HPB
  have hsm := sameB_any b b A c B d A4 c4 B4 d4 w5 HWF.out HWF.out hA5.rp hA5.rt hp5 ht5
  rw [sameV_refl] at hsm
  have HSM := Lib.hid hsm
  clear hsm hp5 ht5
  go_upto_region 10 with (first
    | (refine wpList_row_at rfl _ _ rfl w.heap.size rfl _ _ _ _ hA5.bb Tryd.underlying28 rfl bloInfo ?_)
    | (refine wpList_row_at rfl _ _ rfl G rfl _ _ _ _ k5 Tryd.underlying28 rfl bloInfo ?_)
    | (go_at_call 19; refine HSM.out.mono ?_; unfold gives; rintro e w3 ⟨rfl, hb6⟩))
  have hbw := nxt hA5.bw hb6
  clear hA5 k5 hb6 HSM HWF
  have hpr := parse_two l (parseB l) w3 (HT.out _ hbw) (by have := HLEN.out; omega) rfl
  have hcan := parse_canon (s := l)
  have hpn := parse_no (s := l)
  obtain ⟨z, hz⟩ : ∃ z, z = parseB l := ⟨_, rfl⟩
  rw [← hz] at hpr hcan hpn
  obtain ⟨b2, f⟩ := z
  dsimp only at hpr hcan hpn
  have HPR := Lib.hid hpr
  clear hpr hz
  by_cases hf : f = 0
  · obtain ⟨hk, hbb⟩ := hcan hf
    have HK := Lib.hid (And.intro hk hbb)
    subst hf
    clear hcan hpn hk hbb
    go_upto_region 13 with (first
      | (go_at_call 18; refine HPR.out.mono ?_; rintro e w4 ⟨A4, c4, B4, d4, rfl, hp4, ht4, hb4⟩)
      | (refine wpList_store_new rfl _ _ _ rfl _ (bloC b2 (.slice A4 b2.proof.length c4) (.slice B4 b2.txs.length d4)) rfl rfl _ _ bloInfo rfl (bloC_ones _ _ _ _ _ _ _) ?_))
    have hb5 := below_new w4 (.cells (bloC b2 (.slice A4 b2.proof.length c4) (.slice B4 b2.txs.length d4)) 28)
    have k5 := blo_new w4 28 b2 (.slice A4 b2.proof.length c4) (.slice B4 b2.txs.length d4)
    have hp5 := hp4.below hb5
    have ht5 := ht4.below hb5
    have hbw5 := nxt (nxt hbw hb4) hb5
    obtain ⟨G2, hG⟩ : ∃ G, G = w4.heap.size := ⟨_, rfl⟩
    rw [← hG] at k5
    rw [← hG]
    refine name_world (fun w5 hw5 => ?_)
    rw [← hw5] at k5 hp5 ht5 hbw5
    clear hG hw5 hb5 hb4 hp4 ht4 HPR hbw
    have hby := bytesB_ok b2 _ _ w5 (checkV_wf HK.out.1) ⟨A4, c4, B4, d4, rfl, rfl, hp5, ht5⟩ (HT.out _ hbw5) HK.out.1
    rw [HK.out.2] at hby
    clear hp5 ht5
    go_upto_region 14 with (first
      | (refine wpList_row_at rfl _ _ rfl G2 rfl _ _ _ _ k5 Tryd.underlying28 rfl bloInfo ?_)
      | (go_at_call 10; refine hby.mono ?_; unfold made; rintro e w6 ⟨A6, c6, rfl, r6, q6, hb6⟩))
    have hcv := conv_made (c := c6) r6 rfl
    have hsl := same_self l
    have hbw6 := nxt hbw5 hb6
    clear r6 q6 hby k5 hb6 hbw5
    go_wp2_with fail
    go_ret
    exact ⟨rfl, hbw6⟩
  · have hb2 := hpn hf
    subst hb2
    have q1 : (f != 0) = true := by simpa using hf
    have q2 : (f == 0) = false := by simpa using hf
    clear hcan hpn hf
    go_upto_region 12 with (first
      | (go_at_call 18; refine HPR.out.mono ?_; rintro e w4 ⟨A4, c4, B4, d4, rfl, hp4, ht4, hb4⟩)
      | (refine wpList_store_new rfl _ _ _ rfl _ (bloC zeroB (.slice A4 zeroB.proof.length c4) (.slice B4 zeroB.txs.length d4)) rfl rfl _ _ bloInfo rfl (bloC_ones _ _ _ _ _ _ _) ?_))
    have hb5 := below_new w4 (.cells (bloC zeroB (.slice A4 zeroB.proof.length c4) (.slice B4 zeroB.txs.length d4)) 28)
    have k5 := blo_new w4 28 zeroB (.slice A4 zeroB.proof.length c4) (.slice B4 zeroB.txs.length d4)
    have hp5 := hp4.below hb5
    have ht5 := ht4.below hb5
    have hbw5 := nxt (nxt hbw hb4) hb5
    obtain ⟨G2, hG⟩ : ∃ G, G = w4.heap.size := ⟨_, rfl⟩
    rw [← hG] at k5
    rw [← hG]
    refine name_world (fun w5 hw5 => ?_)
    rw [← hw5] at k5 hp5 ht5 hbw5
    clear hG hw5 hb5 hb4 hp4 ht4 HPR hbw
    have hsm := sameB_any zeroB zeroB A4 c4 B4 d4 none 0 none 0 w5 zeroB_wf zeroB_wf hp5 ht5 Rd.nil Rd.nil
    rw [sameV_refl] at hsm
    have HSM2 := Lib.hid hsm
    clear hsm hp5 ht5
    go_wp2_with (first
      | (refine wpList_row_at rfl _ _ rfl G2 rfl _ _ _ _ k5 Tryd.underlying28 rfl bloInfo ?_)
      | (refine wpList_build rfl _ _ rfl #[] rfl (build_zeroB _) ?_)
      | (go_at_call 19; refine HSM2.out.mono ?_; unfold gives; rintro e w6 ⟨rfl, hb6⟩))
    go_ret
    exact ⟨rfl, nxt hbw5 hb6⟩
end Go.Proofs.YtkjkkbionlmohaaDoor
