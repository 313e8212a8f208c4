/-
  The first ones that wait: the code.
-/
import Derived.Test.YtohkjleppohinaaDoorAll
set_option linter.unusedSimpArgs false
set_option linter.unusedVariables false
set_option maxRecDepth 10000
namespace Go.Proofs.YtohkjleppohinaaDoor
open Go.RowKit Go.Lib
open L3 (Blk Reads block_of_add add_of_add)
open L6 (Turn moreB fresh From In)

set_option maxHeartbeats 4000000 in
set_option maxRecDepth 100000 in
theorem batch_any {w : World} {S : Nat → Prop} {g : Nat} {most : Int} {L : List Txx} (h : Pl w S g most L) (n : Int) (A : Option Addr) (c : Nat) (Wl : List Txx) (hr : Rd txL 7 w A Wl) (hl : ∀ t ∈ Wl, t.wf 1000) (hn : Wl.length ≤ 1000000) :
    Calls Tryd.prog 12 #[.pointer (some ⟨g, 0, none⟩), .int .i64 n, .slice A Wl.length c] w (backL (batchL n Wl L) w) := by
  obtain ⟨i0, hi, hz0, hz1, hz2⟩ := tx_parts
  obtain ⟨P, cp, hb, hrd, _, hf, hg, hv⟩ := h.open_
  have HW := Lib.hid hf.wf
  obtain ⟨m, hm⟩ : ∃ m, m = L.length := ⟨_, rfl⟩
  have hm64 : m ≤ 64 := by rw [hm]; exact hf.len
  have c1 : w.cell? ⟨g, 1, none⟩ = some (.slice P L.length cp) := hb.cell 1
  rw [← hm] at c1
  have HM := Lib.hid hm
  have HRD := Lib.hid hrd
  have HHAS := Lib.hid (fun W x (hb : Below w.heap.size w W) (hx : x.wf 1000) => hasL_any A c Wl x W hl hx (hr.below hb) hn)
  obtain ⟨z, hz⟩ : ∃ z, z = Wl.length := ⟨_, rfl⟩
  rw [← hz] at HHAS ⊢
  clear h hb hrd hf hg hv hm hr hl hn hz
  go_enter Tryd.func12, Tryd.ntmps12
  go_wp2
  go_loopw [7, 17] (fun l i wr => ∃ k : Nat, i = .int .i64 k ∧ k ≤ m ∧ wr.ownsRow w.heap.size 35 7 l (batchL n Wl (L.take k)).length ((batchL n Wl (L.take k)).flatMap txL) ∧ Below w.heap.size w wr) (fun _ i _ => m - (RowKit.intOf i).toNat)
  case atStart => exact ⟨0, rfl, Nat.zero_le _, ⟨by simp [batchL, batA], .inl ⟨rfl, by simp [batchL, batA]⟩⟩, Below.refl _ _⟩
  case round =>
    obtain ⟨k, rfl, hk, hrow, hbw⟩ := hrel
    by_cases hlt : k < m
    · have hkL : k < L.length := by have := HM.out; omega
      obtain ⟨ad, rfl, hadl, hcs⟩ := (HRD.out.below hbw) k hkL
      have hx := HW.out _ (List.getElem_mem hkL)
      have hsn := batch_snoc (n := n) (W := Wl) hkL
      have hol : (batchL n Wl (L.take k)).length ≤ 64 := by have := batch_le n Wl (L.take k); rw [List.length_take] at this; omega
      have HFU := Lib.hid (batch_full (n := n) (W := Wl) (L := L) (k := k))
      have how : ∀ t ∈ batchL n Wl (L.take k), t.wf 1000 := fun t ht => HW.out t (List.mem_of_mem_take (batch_sub ht).1)
      obtain ⟨out, hout⟩ : ∃ out, out = batchL n Wl (L.take k) := ⟨_, rfl⟩
      obtain ⟨x, hxe⟩ : ∃ x, x = L[k] := ⟨_, rfl⟩
      rw [← hxe] at hcs hx hsn
      rw [← hout] at hrow hsn hol HFU how
      obtain ⟨O, co, rfl, hrdo, _⟩ := Rd.of_row (f := txL) (k := 7) (fun _ => rfl) hrow
      have hyb : Blk (wr.alloc (.cells (txC x) 35)) wr.heap.size 35 (txC x) := box_new wr _ x
      have hba : Below wr.heap.size wr (wr.alloc (.cells (txC x) 35)) := below_box _ x
      have hbb : Below w.heap.size w (wr.alloc (.cells (txC x) 35)) := nxt hbw hba
      have hra := row_below hrow hba
      obtain ⟨ol, hole⟩ : ∃ ol, ol = out.length := ⟨_, rfl⟩
      rw [← hole] at hol hra HFU ⊢
      have HOUT := Lib.hid hout
      have HOL := Lib.hid hole
      have HSN := Lib.hid hsn
      have HCF := Lib.hid (fun W B (hB : Blk W B 35 (txC x)) (hb : Below wr.heap.size wr W) => conL_any O co B out x W how hB (hrdo.below hb) (by have := HOL.out; omega))
      rw [← hole] at HCF
      clear hxe hrow hout hole hsn hrdo how hkL
      by_cases hfull : n ≤ (ol : Int)
      · go_upto_region 7 with (first
          | (refine wpList_cells_at rfl _ _ rfl (ad.add (k * 7)) rfl (txL x) _ hcs Tryd.underlying35 rfl txInfo ?_)
          | (refine wpList_store_new rfl _ _ _ rfl wr (txC x) rfl rfl _ _ tx_info rfl (txC_ones _) ?_)
          | go_in)
        have HE := Lib.hid (HFU.out hfull)
        clear hcs
        go_wp2
        go_ret
        rw [HE.out]
        rw [HOL.out] at hra ⊢
        exact backL.of hra hbb
      · have hlt2 : (ol : Int) < n := by omega
        have hH := HHAS.out _ x hbb hx
        rcases Bool.eq_false_or_eq_true (hasX Wl x) with hh | hh
        · rw [hh] at hH
          have HH := Lib.hid hH
          have HE := Lib.hid (HSN.out.trans (takes_not (.inl hh)))
          clear hH hh hx
          go_upto_region 7 with (first
            | (refine wpList_cells_at rfl _ _ rfl (ad.add (k * 7)) rfl (txL x) _ hcs Tryd.underlying35 rfl txInfo ?_)
            | (refine wpList_store_new rfl _ _ _ rfl wr (txC x) rfl rfl _ _ tx_info rfl (txC_ones _) ?_)
            | go_in)
          clear hcs
          go_wp2_with (first
            | (refine wpList_row_at rfl _ _ rfl wr.heap.size rfl _ _ _ _ hyb Tryd.underlying35 rfl (by kernel_rfl) ?_)
            | (go_at_call 25; refine HH.out.mono ?_; unfold gives; rintro e w2 ⟨rfl, hb2⟩)
            | go_in)
          go_roundw
          case rel => exact ⟨k + 1, by go_num, by omega, by rw [HE.out, ← HOL.out]; exact row_below hra hb2, nxt hbb hb2⟩
          case measure => simp [RowKit.intOf]; omega
        · rw [hh] at hH
          have HH := Lib.hid hH
          have HHF := Lib.hid hh
          clear hH hh
          go_upto_region 7 with (first
            | (refine wpList_cells_at rfl _ _ rfl (ad.add (k * 7)) rfl (txL x) _ hcs Tryd.underlying35 rfl txInfo ?_)
            | (refine wpList_store_new rfl _ _ _ rfl wr (txC x) rfl rfl _ _ tx_info rfl (txC_ones _) ?_)
            | go_in)
          clear hcs
          rcases Bool.eq_false_or_eq_true (out.any fun y => sameT y x) with ha | ha
          · rw [ha] at HCF
            have HE := Lib.hid (HSN.out.trans (takes_not (.inr ha)))
            clear ha hx
            go_wp2_with (first
              | (refine wpList_row_at rfl _ _ rfl wr.heap.size rfl _ _ _ _ hy2 Tryd.underlying35 rfl (by kernel_rfl) ?_)
              | (refine wpList_row_at rfl _ _ rfl wr.heap.size rfl _ _ _ _ hyb Tryd.underlying35 rfl (by kernel_rfl) ?_)
              | (go_at_call 25; refine HH.out.mono ?_; unfold gives; rintro e w2 ⟨rfl, hb2⟩
                 have hy2 := hyb.below hb2 hyb.lt)
              | (go_at_call 27; refine (inplace_any x _).mono ?_; rintro e w3 ⟨rfl, hB3, hb3⟩)
              | (go_at_call 26; refine (HCF.out _ _ hB3 (nxt (nxt hba hb2) hb3)).mono ?_; unfold gives; rintro e w4 ⟨rfl, hb4⟩)
              | go_in)
            go_roundw
            case rel => exact ⟨k + 1, by go_num, by omega, by rw [HE.out, ← HOL.out]; exact row_below hra (nxt (nxt hb2 hb3) hb4), nxt (nxt (nxt hbb hb2) hb3) hb4⟩
            case measure => simp [RowKit.intOf]; omega
          · rw [ha] at HCF
            have HE := Lib.hid (HSN.out.trans (takes_yes (by rw [← HOL.out]; exact hlt2) HHF.out ha))
            have HO := Lib.hid (fun W => own_any x W (hx.le (by omega)))
            clear ha hx
            go_upto_region 9 with (first
              | (refine wpList_row_at rfl _ _ rfl wr.heap.size rfl _ _ _ _ hy2 Tryd.underlying35 rfl (by kernel_rfl) ?_)
              | (refine wpList_row_at rfl _ _ rfl wr.heap.size rfl _ _ _ _ hyb Tryd.underlying35 rfl (by kernel_rfl) ?_)
              | (go_at_call 25; refine HH.out.mono ?_; unfold gives; rintro e w2 ⟨rfl, hb2⟩
                 have hy2 := hyb.below hb2 hyb.lt)
              | (go_at_call 27; refine (inplace_any x _).mono ?_; rintro e w3 ⟨rfl, hB3, hb3⟩)
              | (go_at_call 26; refine (HCF.out _ _ hB3 (nxt (nxt hba hb2) hb3)).mono ?_; unfold gives; rintro e w4 ⟨rfl, hb4⟩)
              | go_in)
            have hbn := nxt (nxt hb2 hb3) hb4
            have hy4 := hyb.below hbn hyb.lt
            have hr4 := row_below hra hbn
            have hb5 := nxt hbb hbn
            clear hyb hy2 hB3 hb2 hb3 hb4 hra hba hbb hbw hbn
            go_wp2_with (first
              | (refine wpList_row_at rfl _ _ rfl wr.heap.size rfl _ _ _ _ hy4 Tryd.underlying35 rfl (by kernel_rfl) ?_)
              | (go_at_call 24; refine (HO.out _).mono ?_; unfold gives; rintro e w6 ⟨rfl, hb6⟩
                 have hxb : Blk (w6.alloc (.cells (txC x) 35)) w6.heap.size 35 (txC x) := Blk.new _ _ _
                 have hr6 : (w6.alloc (.cells (txC x) 35)).ownsRow w.heap.size 35 7 (.slice O ol co) ol (out.flatMap txL) := (row_below hr4 hb6).alloc _
                 have hs6 : w.heap.size ≤ w6.heap.size := (nxt hb5 hb6).size)
              | (refine wpList_buildSlice rfl _ _ _ rfl #[(0, .agg (txC x))] rfl (slice_tx x _) ?_)
              | (at_builtin; refine L3.wpList_append_any _ rfl (.tmp 36) (.tmp 39) 28 rfl w.heap.size 35 i0 _ 7 88 Tryd.underlying28 hi hz0 hz1 hz2 rfl (by decide) (.slice O ol co) ol (out.flatMap txL) rfl hr6 (w6.heap.size + 1) (some ⟨w6.heap.size, 0, none⟩) 1 1 (txL x) rfl (reads_one (k := 7) rfl hxb) (one_txL x) (by unfold maxLen; omega) (by omega) (by simp; omega) ?_
                 intro v7 w7 hr7 hg7 hat7)
              | go_in)
            go_roundw
            case rel =>
              refine ⟨k + 1, by go_num, by omega, ?_, (((nxt hb5 hb6).alloc hs6 (.cells (txC x) 35))).grown hg7 (by simp; omega) (fun i e => (hr6.lt i e).1)⟩
              rw [HE.out, List.length_append, List.flatMap_append, ← HOL.out]
              simpa using hr7
            case measure => simp [RowKit.intOf]; omega
    · obtain rfl : k = m := by omega
      have HT : Hid (L.take k = L) := Lib.hid (by rw [HM.out, List.take_length])
      rw [HT.out] at hrow
      obtain ⟨Q, cq, rfl, _⟩ := L6.row_reads hrow
      go_wp2
      go_ret
      exact backL.of hrow hbw
end Go.Proofs.YtohkjleppohinaaDoor
