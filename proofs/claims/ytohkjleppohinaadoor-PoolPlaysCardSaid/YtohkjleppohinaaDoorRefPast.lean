/-
  The document's pool: what is past waits no more.
-/
import Derived.Test.YtohkjleppohinaaDoorRefPool
set_option linter.unusedSimpArgs false
set_option linter.unusedVariables false
set_option maxRecDepth 10000
namespace Go.Proofs.YtohkjleppohinaaDoor
open Go.RowKit Go.Lib
open L3 (Blk Reads block_of_add add_of_add)
open L6 (Turn moreB fresh From In)

theorem add_pos (a : Addr) (f : Nat) (hf : 0 < f) : a.add f = ⟨a.block, a.off + f, none⟩ := by
  unfold Addr.add
  rw [if_neg (by omega)]
set_option maxHeartbeats 4000000 in
set_option maxRecDepth 100000 in
theorem refpast_any (most : Int) (A : Option Addr) (c : Nat) (L : List Txx) (who : List UInt8) (u : Int) (w : World) (hl : ∀ t ∈ L, t.wf 1000) (hr : Rd txL 7 w A L) (hn : L.length ≤ 1000000) :
    Calls Tryd.prog 16 #[.agg (plC most A L.length c), .string (str who), .int .i64 u] w (backP most (pastL who u L) w) := by
  obtain ⟨i0, hi, hz0, hz1, hz2⟩ := tx_parts
  have HAL := Lib.hid (rd_lt hr)
  have HL := Lib.hid hl
  obtain ⟨n, hn2⟩ : ∃ n, n = L.length := ⟨_, rfl⟩
  obtain ⟨W0, hW0⟩ : ∃ W0, W0 = (w.alloc (.cells (plC most A L.length c) 30)).alloc (.cells (plC 0 none 0 0) 30) := ⟨_, rfl⟩
  have hP : PlAt w most A c L W0 := by rw [hW0]; exact PlAt.start hr
  have hs0 : W0.heap.size = w.heap.size + 2 := by rw [hW0]; simp
  have hE : ((w.alloc (.cells (plC most A n c) 30)).alloc (.cells #[.int .i64 0, .slice none 0 0] 30)) = W0 := by rw [hW0, hn2]; rfl
  rw [← hn2] at hn ⊢
  have HN := Lib.hid hn2
  have HS0 := Lib.hid hs0
  clear hn2 hW0 hs0 hr hl
  go_enter Tryd.func16, Tryd.ntmps16
  go_upto_region 1 with fail
  clear hE
  go_wp2
  go_loopw [7, 8] (fun l i wr => ∃ k : Nat, i = .int .i64 k ∧ k ≤ n ∧ wr.ownsRow (w.heap.size + 2) 35 7 l (pastL who u (L.take k)).length ((pastL who u (L.take k)).flatMap txL) ∧ PlAt w most A c L wr ∧ w.heap.size + 2 ≤ wr.heap.size) (fun _ i _ => n - (RowKit.intOf i).toNat)
  case atStart => exact ⟨0, rfl, Nat.zero_le _, ⟨by simp [pastL], .inl ⟨rfl, by simp [pastL]⟩⟩, hP, by have := HS0.out; omega⟩
  case round =>
    obtain ⟨k, rfl, hk, hrow, hPr, hsz⟩ := hrel
    have c1 : wr.cell? ⟨w.heap.size, 1, none⟩ = some (.slice A L.length c) := hPr.pl.cell 1
    have c0 : wr.cell? ⟨w.heap.size, 0, none⟩ = some (.int .i64 most) := hPr.pl.cell 0
    rw [← HN.out] at c1
    by_cases hlt : k < n
    · have hkL : k < L.length := by have := HN.out; omega
      obtain ⟨ad, rfl, hadl, hcs⟩ := hPr.rd k hkL
      have hx := HL.out _ (List.getElem_mem hkL)
      have hks := keep_snoc (p := stays who u) hkL
      have hol : (pastL who u (L.take k)).length ≤ 1000000 := by have := List.length_filter_le (stays who u) (L.take k); rw [List.length_take] at this; unfold pastL; omega
      obtain ⟨F, hF⟩ : ∃ F, F = pastL who u (L.take k) := ⟨_, rfl⟩
      obtain ⟨x, hxe⟩ : ∃ x, x = L[k] := ⟨_, rfl⟩
      rw [← hxe] at hcs hx hks
      rw [← hF] at hrow hol
      rw [show (L.take k).filter (stays who u) = F from hF.symm] at hks
      have HK := Lib.hid hks
      have hcs1 : ∀ j u, (txL x)[j]? = some u → wr.cell? ((ad.add (k * 7)).add j) = some u := hcs
      have q1 : wr.cell? ⟨(ad.add (k * 7)).block, (ad.add (k * 7)).off + 1, none⟩ = some (.string (str x.frm)) := by have := hcs1 1 _ rfl; rwa [add_pos _ _ (by decide)] at this
      have q6 : wr.cell? ⟨(ad.add (k * 7)).block, (ad.add (k * 7)).off + 6, none⟩ = some (.int .i64 x.nonce) := by have := hcs1 6 _ rfl; rwa [add_pos _ _ (by decide)] at this
      obtain ⟨b, hb⟩ : ∃ b, b = stays who u x := ⟨_, rfl⟩
      have HB := Lib.hid hb
      clear hF hxe hks hcs hx hkL hb
      rcases (show (x.frm ≠ who) ∨ (x.frm = who ∧ u < x.nonce) ∨ (x.frm = who ∧ ¬ u < x.nonce) from by
        by_cases h1 : x.frm = who
        · by_cases h2 : u < x.nonce
          · exact .inr (.inl ⟨h1, h2⟩)
          · exact .inr (.inr ⟨h1, h2⟩)
        · exact .inl h1) with h1 | ⟨h1, h2⟩ | ⟨h1, h2⟩
      case inr.inr =>
        have e1 := str_eq h1
        have HE := Lib.hid (HK.out.2 (by simp [stays, h1, h2]))
        clear h1
        go_wp2
        go_roundw
        case rel => exact ⟨k + 1, by go_num, by omega, by unfold pastL; rw [HE.out]; exact hrow, hPr, hsz⟩
        case measure => simp [RowKit.intOf]; omega
      case' inl => have e1 := str_ne h1; have HE := Lib.hid (HK.out.1 (by simp [stays, h1])); clear h1
      case' inr.inl => have e1 := str_eq h1; have HE := Lib.hid (HK.out.1 (by simp [stays, h2])); clear h1
      all_goals
        have hyb : Blk (wr.alloc (.cells (txC x) 35)) wr.heap.size 35 (txC x) := Blk.new _ _ _
        have hP3 := hPr.below (below_box 35 x)
        go_upto_region 6 with fail
        clear q1 q6
        go_wp2_with (first
          | (refine wpList_cells_at rfl _ _ rfl (ad.add (k * 7)) rfl (txL x) _ hcs1 Tryd.underlying35 rfl txInfo ?_)
          | (refine wpList_buildSlice rfl _ _ _ rfl #[(0, .agg (txC x))] rfl (slice_tx x _) ?_)
          | (at_builtin; refine L3.wpList_append_any _ rfl (.tmp 34) (.tmp 40) 28 rfl (w.heap.size + 2) 35 i0 _ 7 88 Tryd.underlying28 hi hz0 hz1 hz2 rfl (by decide) u7 F.length (F.flatMap txL) rfl (hrow.alloc _) (wr.heap.size + 1) (some ⟨wr.heap.size, 0, none⟩) 1 1 (txL x) rfl (reads_one (k := 7) rfl hyb) (one_txL x) (by unfold maxLen; omega) (by omega) (by simp; omega) ?_
             intro v3 w3 hr3 hg3 hat3
             have hP4 := hP3.grown hg3 (fun i e => (hrow.lt i e).1) HAL.out
             have hs3 := hg3.size)
          | go_in)
        go_roundw
        case rel => exact ⟨k + 1, by go_num, by omega, by unfold pastL; rw [HE.out, List.length_append, List.flatMap_append]; simpa using hr3, hP4, by simp at hs3; omega⟩
        case measure => simp [RowKit.intOf]; omega
    · obtain rfl : k = n := by omega
      have HT : Hid (L.take k = L) := Lib.hid (by rw [HN.out, List.take_length])
      rw [HT.out] at hrow
      obtain ⟨Q, cq, rfl, _⟩ := L6.row_reads hrow
      have HP := Lib.hid hPr
      have HRW := Lib.hid hrow
      obtain ⟨q, hq⟩ : ∃ q, q = (pastL who u L).length := ⟨_, rfl⟩
      have HQ := Lib.hid hq
      have hre := hPr.re
      rw [← hq]
      clear hq hPr hrow
      go_wp2_with (first
        | (refine wpList_build rfl _ _ rfl #[(0, .int .i64 most), (1, .slice Q q cq)] rfl (build_pl most Q q cq wr) ?_)
        | (refine wpList_store_row rfl _ _ _ rfl (w.heap.size + 1) (plC most Q q cq) rfl rfl _ _ hre plInfo rfl (plC_ones _ _ _ _) ?_))
      (try simp only [Exit.inBlock, Exit.then])
      refine bodyPost_ret (results_row rfl _ _ (w.heap.size + 1) rfl _ (plC most Q q cq) _ _ (blk_setRow hre) Tryd.underlying30 rfl plInfo) rfl ?_
      have hd := HRW.out
      have := backP.of (M := pastL who u L) (A2 := Q) (c2 := cq) HP.out hd
      rw [← HQ.out] at this
      exact this
end Go.Proofs.YtohkjleppohinaaDoor
