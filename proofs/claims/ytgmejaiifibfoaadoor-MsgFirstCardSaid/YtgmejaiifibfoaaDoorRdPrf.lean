/-
  The timeouts of a proof, read: by the code.
-/
import Derived.Test.YtgmejaiifibfoaaDoorFitM
import Derived.Test.YtgmejaiifibfoaaDoorB4
set_option linter.unusedSimpArgs false
set_option linter.unusedVariables false
set_option maxRecDepth 10000
namespace Go.Proofs.YtgmejaiifibfoaaDoor
open Go.RowKit Go.Maps Go.Lib
open L3 (Blk Reads Rdr leaves numS failS rdN mostV mostS)
open L6 (Turn)
open L11 (Crt zeroC crtL crtC mayV takeC crtInfo crtC_ones)

theorem fitM_is {n f : Int} (h : fitM n = f) (w : World) : Calls Tryd.prog 18 #[.int .i64 n] w fun e w' => e = .returned (.int .i64 f) ∧ w = w' := by
  have := fitM_any n w; rw [h] at this; exact this
set_option maxHeartbeats 2000000 in
set_option maxRecDepth 100000 in
theorem readPrf_any (g : Nat) (p : List UInt8 × Int) (w : World) (h : Rdr w g p) :
    Calls Tryd.prog 37 #[.pointer (some ⟨g, 0, none⟩)] w (listed 26 tmL 10 g (listG (oneM (fitM (numV p))) (mostV 10 (numS p)).toNat (mostS 10 (numS p))) (itG (oneM (fitM (numV p))) (mostV 10 (numS p)).toNat (mostS 10 (numS p))) w) := by
  obtain ⟨i0, hi, hz0, hz1, hz2⟩ := tm_parts
  have hlt := h.lt
  obtain ⟨v, hv⟩ : ∃ v, fitM (numV p) = v := ⟨_, rfl⟩
  have hN := c_rnum g p w h
  obtain ⟨a, ha⟩ : ∃ a, a = numV p := ⟨_, rfl⟩
  rw [hv]
  rw [← ha] at hN hv
  have hFV := fitM_is hv
  obtain ⟨q, hq⟩ : ∃ q, q = numS p := ⟨_, rfl⟩
  rw [← hq] at hN ⊢
  have hr := mostV_rng 10 q (by omega)
  have hM := fun W (hl : leaves g q w W) => L3.rmost_any g q 10 W hl.1
  obtain ⟨s, es⟩ : ∃ s, s = mostS 10 q := ⟨_, rfl⟩
  obtain ⟨n, en⟩ : ∃ n, n = (mostV 10 q).toNat := ⟨_, rfl⟩
  have eN : mostV 10 q = (n : Int) := by rw [en, Int.toNat_of_nonneg hr.1]
  have hn : n ≤ 100 := by omega
  rw [eN, ← es] at hM
  rw [← es, ← en]
  have HF := Lib.hid (fun (z : List UInt8 × Int) (W : World) (hl : leaves g z w W) => c_rnum g z W hl.1)
  have HG := Lib.hid (fun (z : List UInt8 × Int) (W : World) (hl : leaves g z w W) => c_take g z W hl.1)
  have HM := Lib.hid hM
  have HN := Lib.hid hN
  have HV := Lib.hid hFV
  clear hM hr es en eN h hN ha hv hq hFV
  go_enter Tryd.func37, Tryd.ntmps37
  go_wp2_with (first
    | (go_at_call 19; refine HN.out.mono ?_; rintro e w0 ⟨rfl, hl0⟩)
    | (go_at_call 18; refine (HV.out _).mono ?_; rintro e w0b ⟨rfl, rfl⟩)
    | (go_at_call 63; refine (HM.out _ hl0).mono ?_; rintro e w1 ⟨rfl, hl1⟩))
  have hl1' := hl0.trans hl1
  clear hl0 hl1 HM HN HV
  go_loopw [4, 10] (fun l i wr => ∃ k : Nat, i = .int .i64 k ∧ k ≤ n ∧ wr.ownsRow w.heap.size 26 10 l (listG (oneM v) k s).length ((listG (oneM v) k s).flatMap tmL) ∧ leaves g (itG (oneM v) k s) w wr) (fun _ i _ => n - (RowKit.intOf i).toNat)
  case atStart => exact ⟨0, rfl, Nat.zero_le _, ⟨by simp [listG], .inl ⟨rfl, by simp [listG]⟩⟩, hl1'⟩
  case round =>
    obtain ⟨k, rfl, hk, hrow, hl⟩ := hrel
    clear hl1'
    by_cases hlk : k < n
    · have hC := HF.out _ wr hl
      have hsn := listG_snoc (oneM v) k s
      have hlen := listG_len (oneM v) k s
      have hit : itG (oneM v) (k + 1) s = ((oneM v) (itG (oneM v) k s)).2 := rfl
      obtain ⟨z, ez⟩ : ∃ z, z = itG (oneM v) k s := ⟨_, rfl⟩
      obtain ⟨F, eF⟩ : ∃ F, F = listG (oneM v) k s := ⟨_, rfl⟩
      rw [← ez] at hC hsn hit hl
      rw [← eF] at hsn hlen hrow
      obtain ⟨f, ef⟩ : ∃ f, fitM (numV z) = f := ⟨_, rfl⟩
      have hx : oneM v z = (⟨f, v, (takeC (numS z)).1⟩, (takeC (numS z)).2) := by rw [← ef]; rfl
      rw [hx] at hsn hit
      dsimp only at hsn hit
      have hT := fun W (hl2 : leaves g (numS z) w W) => HG.out (numS z) W hl2
      obtain ⟨b, eb⟩ : ∃ b, b = numV z := ⟨_, rfl⟩
      rw [← eb] at hC ef
      have hfi := fitM_is ef
      obtain ⟨z1, ez1⟩ : ∃ z1, z1 = numS z := ⟨_, rfl⟩
      rw [← ez1] at hC hT hsn hit
      obtain ⟨c, ec⟩ : ∃ c, c = (takeC z1).1 := ⟨_, rfl⟩
      obtain ⟨z2, ez2⟩ : ∃ z2, z2 = (takeC z1).2 := ⟨_, rfl⟩
      rw [← ec] at hT hsn
      rw [← ez2] at hT hit
      have hF : F.length ≤ 100 := by omega
      have HC := Lib.hid hC
      have HT := Lib.hid hT
      have HFI := Lib.hid hfi
      have HS := Lib.hid (And.intro hsn hit)
      clear hC hT hfi hsn hit ez eF ef hx eb ez1 ec ez2 hlen
      go_wp2_with (first
        | (go_at_call 19; refine HC.out.mono ?_; rintro e w1 ⟨rfl, hl1⟩
           have hr1 := row_leaves hrow hl1.2 hlt
           have hl1w := hl.trans hl1)
        | (go_at_call 18; refine (HFI.out _).mono ?_; rintro e w1b ⟨rfl, rfl⟩)
        | (go_at_call 36; refine (HT.out _ hl1w).mono ?_; rintro e w2 ⟨rfl, hl2⟩
           have hr2 := (row_leaves hr1 hl2.2 hlt).alloc (.cells (tmC ⟨f, v, c⟩) 26)
           have hyb : Blk (w2.alloc (.cells (tmC ⟨f, v, c⟩) 26)) w2.heap.size 26 (tmC ⟨f, v, c⟩) := Blk.new _ _ _
           have hl3 := leaves_alloc (hl1w.trans hl2) (.cells (tmC ⟨f, v, c⟩) 26)
           have hs3 := hl3.2.size)
        | (refine wpList_build rfl _ _ rfl #[(0, .int .i64 f), (1, .int .i64 v), (2, .agg (crtC c))] rfl (build_tm f v c _) ?_)
        | (refine wpList_buildSlice rfl _ _ _ rfl #[(0, .agg (tmC ⟨f, v, c⟩))] rfl (slice_tm ⟨f, v, c⟩ _) ?_)
        | (at_builtin; refine L3.wpList_append_any _ rfl _ _ 27 rfl w.heap.size 26 i0 _ 10 72 Tryd.underlying27 hi hz0 hz1 hz2 rfl (by decide) _ F.length (F.flatMap tmL) rfl hr2 (w2.heap.size + 1) (some ⟨w2.heap.size, 0, none⟩) 1 1 (tmL ⟨f, v, c⟩) rfl (reads_one (k := 10) rfl hyb) (one_tmL ⟨f, v, c⟩) (by unfold maxLen; omega) (by omega) hs3 ?_
           intro v4 w4 hr4 hg4 hat4))
      go_round
      case rel => exact ⟨k + 1, by go_num, by omega, by rw [HS.out.1, List.length_append, List.flatMap_append]; simpa using hr4, by rw [HS.out.2]; exact leaves_own hl3 hg4 (fun i e => (hr2.lt i e).1) hlt⟩
      case measure => simp [RowKit.intOf]; omega
    · obtain rfl : k = n := by omega
      go_wp2_with fail
      go_ret
      exact ⟨_, rfl, hrow, hl⟩
end Go.Proofs.YtgmejaiifibfoaaDoor
