/-
  Texts of one layer in one: RdPrf, ReadM.
-/
import Derived.Test.YtgmejaiifibfoaaGreatDoorM3
import Derived.Test.YtgmejaiifibfoaaGreatDoorB4
import Derived.Test.YtgmejaiifibfoaaGreatDoorM2

/-
  The timeouts of a proof, read: by the code.
-/
set_option linter.unusedSimpArgs false
set_option linter.unusedVariables false
set_option maxRecDepth 10000
namespace Go.Proofs.YtgmejaiifibfoaaGreatDoor
open Go.RowKit Go.Maps Go.Lib
open L3 (Blk Reads Rdr leaves numS failS rdN mostV mostS)
open L6 (Turn)
open L11 (Crt zeroC crtL crtC mayV takeC crtInfo crtC_ones)

theorem fitM_is {n f : Int} (h : fitM n = f) (w : World) : Calls Tryz.prog 38 #[.int .i64 n] w fun e w' => e = .returned (.int .i64 f) ∧ w = w' := by
  have := fitM_any n w; rw [h] at this; exact this
set_option maxHeartbeats 2000000 in
set_option maxRecDepth 100000 in
theorem readPrf_any (g : Nat) (p : List UInt8 × Int) (w : World) (h : Rdr w g p) :
    Calls Tryz.prog 71 #[.pointer (some ⟨g, 0, none⟩)] w (listed 26 tmL 10 g (listG (oneM (fitM (numV p))) (mostV 10 (numS p)).toNat (mostS 10 (numS p))) (itG (oneM (fitM (numV p))) (mostV 10 (numS p)).toNat (mostS 10 (numS p))) w) := by
  obtain ⟨i0, hi, hz0, hz1, hz2⟩ := tm_parts
  have hlt := h.lt
  obtain ⟨v, hv⟩ : ∃ v, fitM (numV p) = v := ⟨_, rfl⟩
  have hN := c_rnum g p w h
  obtain ⟨a, ha⟩ : ∃ a, a = numV p := ⟨_, rfl⟩
  rw [hv]
  rw [← ha] at hN hv
  have hFV := fitM_is hv
  obtain ⟨q, hq⟩ : ∃ q, q = numS p := ⟨_, rfl⟩
  rw [← hq] at hN ⊢
  have hr := mostV_rng 10 q (by omega)
  have hM := fun W (hl : leaves g q w W) => L3.rmost_any g q 10 W hl.1
  obtain ⟨s, es⟩ : ∃ s, s = mostS 10 q := ⟨_, rfl⟩
  obtain ⟨n, en⟩ : ∃ n, n = (mostV 10 q).toNat := ⟨_, rfl⟩
  have eN : mostV 10 q = (n : Int) := by rw [en, Int.toNat_of_nonneg hr.1]
  have hn : n ≤ 100 := by omega
  rw [eN, ← es] at hM
  rw [← es, ← en]
  have HF := Lib.hid (fun (z : List UInt8 × Int) (W : World) (hl : leaves g z w W) => c_rnum g z W hl.1)
  have HG := Lib.hid (fun (z : List UInt8 × Int) (W : World) (hl : leaves g z w W) => c_take g z W hl.1)
  have HM := Lib.hid hM
  have HN := Lib.hid hN
  have HV := Lib.hid hFV
  clear hM hr es en eN h hN ha hv hq hFV
  go_enter Tryz.func71, Tryz.ntmps71
  go_wp2_with (first
    | (go_at_call 39; refine HN.out.mono ?_; rintro e w0 ⟨rfl, hl0⟩)
    | (go_at_call 38; refine (HV.out _).mono ?_; rintro e w0b ⟨rfl, rfl⟩)
    | (go_at_call 102; refine (HM.out _ hl0).mono ?_; rintro e w1 ⟨rfl, hl1⟩))
  have hl1' := hl0.trans hl1
  clear hl0 hl1 HM HN HV
  go_loopw [4, 10] (fun l i wr => ∃ k : Nat, i = .int .i64 k ∧ k ≤ n ∧ wr.ownsRow w.heap.size 26 10 l (listG (oneM v) k s).length ((listG (oneM v) k s).flatMap tmL) ∧ leaves g (itG (oneM v) k s) w wr) (fun _ i _ => n - (RowKit.intOf i).toNat)
  case atStart => exact ⟨0, rfl, Nat.zero_le _, ⟨by simp [listG], .inl ⟨rfl, by simp [listG]⟩⟩, hl1'⟩
  case round =>
    obtain ⟨k, rfl, hk, hrow, hl⟩ := hrel
    clear hl1'
    by_cases hlk : k < n
    · have hC := HF.out _ wr hl
      have hsn := listG_snoc (oneM v) k s
      have hlen := listG_len (oneM v) k s
      have hit : itG (oneM v) (k + 1) s = ((oneM v) (itG (oneM v) k s)).2 := rfl
      obtain ⟨z, ez⟩ : ∃ z, z = itG (oneM v) k s := ⟨_, rfl⟩
      obtain ⟨F, eF⟩ : ∃ F, F = listG (oneM v) k s := ⟨_, rfl⟩
      rw [← ez] at hC hsn hit hl
      rw [← eF] at hsn hlen hrow
      obtain ⟨f, ef⟩ : ∃ f, fitM (numV z) = f := ⟨_, rfl⟩
      have hx : oneM v z = (⟨f, v, (takeC (numS z)).1⟩, (takeC (numS z)).2) := by rw [← ef]; rfl
      rw [hx] at hsn hit
      dsimp only at hsn hit
      have hT := fun W (hl2 : leaves g (numS z) w W) => HG.out (numS z) W hl2
      obtain ⟨b, eb⟩ : ∃ b, b = numV z := ⟨_, rfl⟩
      rw [← eb] at hC ef
      have hfi := fitM_is ef
      obtain ⟨z1, ez1⟩ : ∃ z1, z1 = numS z := ⟨_, rfl⟩
      rw [← ez1] at hC hT hsn hit
      obtain ⟨c, ec⟩ : ∃ c, c = (takeC z1).1 := ⟨_, rfl⟩
      obtain ⟨z2, ez2⟩ : ∃ z2, z2 = (takeC z1).2 := ⟨_, rfl⟩
      rw [← ec] at hT hsn
      rw [← ez2] at hT hit
      have hF : F.length ≤ 100 := by omega
      have HC := Lib.hid hC
      have HT := Lib.hid hT
      have HFI := Lib.hid hfi
      have HS := Lib.hid (And.intro hsn hit)
      clear hC hT hfi hsn hit ez eF ef hx eb ez1 ec ez2 hlen
      go_wp2_with (first
        | (go_at_call 39; refine HC.out.mono ?_; rintro e w1 ⟨rfl, hl1⟩
           have hr1 := row_leaves hrow hl1.2 hlt
           have hl1w := hl.trans hl1)
        | (go_at_call 38; refine (HFI.out _).mono ?_; rintro e w1b ⟨rfl, rfl⟩)
        | (go_at_call 70; refine (HT.out _ hl1w).mono ?_; rintro e w2 ⟨rfl, hl2⟩
           have hr2 := (row_leaves hr1 hl2.2 hlt).alloc (.cells (tmC ⟨f, v, c⟩) 26)
           have hyb : Blk (w2.alloc (.cells (tmC ⟨f, v, c⟩) 26)) w2.heap.size 26 (tmC ⟨f, v, c⟩) := Blk.new _ _ _
           have hl3 := leaves_alloc (hl1w.trans hl2) (.cells (tmC ⟨f, v, c⟩) 26)
           have hs3 := hl3.2.size)
        | (refine wpList_build rfl _ _ rfl #[(0, .int .i64 f), (1, .int .i64 v), (2, .agg (crtC c))] rfl (build_tm f v c _) ?_)
        | (refine wpList_buildSlice rfl _ _ _ rfl #[(0, .agg (tmC ⟨f, v, c⟩))] rfl (slice_tm ⟨f, v, c⟩ _) ?_)
        | (at_builtin; refine L3.wpList_append_any _ rfl _ _ 27 rfl w.heap.size 26 i0 _ 10 72 Tryz.underlying27 hi hz0 hz1 hz2 rfl (by decide) _ F.length (F.flatMap tmL) rfl hr2 (w2.heap.size + 1) (some ⟨w2.heap.size, 0, none⟩) 1 1 (tmL ⟨f, v, c⟩) rfl (reads_one (k := 10) rfl hyb) (one_tmL ⟨f, v, c⟩) (by unfold maxLen; omega) (by omega) hs3 ?_
           intro v4 w4 hr4 hg4 hat4))
      go_round
      case rel => exact ⟨k + 1, by go_num, by omega, by rw [HS.out.1, List.length_append, List.flatMap_append]; simpa using hr4, by rw [HS.out.2]; exact leaves_own hl3 hg4 (fun i e => (hr2.lt i e).1) hlt⟩
      case measure => simp [RowKit.intOf]; omega
    · obtain rfl : k = n := by omega
      go_wp2_with fail
      go_ret
      exact ⟨_, rfl, hrow, hl⟩
end Go.Proofs.YtgmejaiifibfoaaGreatDoor

/-
  What a reader has for a message of a kind: by the code.
-/
set_option linter.unusedSimpArgs false
set_option linter.unusedVariables false
set_option maxRecDepth 10000
namespace Go.Proofs.YtgmejaiifibfoaaGreatDoor
open Go.RowKit Go.Maps Go.Lib
open L3 (Blk Reads Rdr leaves numS failS rdN mostV mostS)
open L6 (Turn)
open L11 (Crt zeroC crtL crtC mayV takeC crtInfo crtC_ones)

/-- A slice that lies from block B on. -/
def FarS (B : Nat) (v : Value) : Prop := ∀ ad n c, v = .slice (some ad) n c → B ≤ ad.block
def PtFar (B : Nat) : Pt → Value → Prop
  | .blk b, v => ∀ P T, v = .iface 30 (.agg (bloC b P T)) → FarS B P ∧ FarS B T
  | .prf _, v => ∀ V, v = .iface 27 V → FarS B V
  | _, _ => True
theorem bloC_two {b : Blo} {P T P' T' : Value} (h : bloC b P T = bloC b P' T') : P = P' ∧ T = T' := by
  unfold bloC at h
  simp only [Array.mk.injEq, List.cons.injEq, true_and, and_true] at h
  exact h
theorem far_blk {B : Nat} {b : Blo} {P T : Value} (hP : FarS B P) (hT : FarS B T) : PtFar B (.blk b) (.iface 30 (.agg (bloC b P T))) := fun P' T' e => by
  injection e with _ e
  injection e with e
  obtain ⟨rfl, rfl⟩ := bloC_two e
  exact ⟨hP, hT⟩
theorem far_prf {B : Nat} {l : List Tmo} {V : Value} (h : FarS B V) : PtFar B (.prf l) (.iface 27 V) := fun V' e => by
  injection e with _ e
  subst e
  exact h
theorem farS_mk {B : Nat} {A : Option Addr} {n c : Nat} (h : ∀ ad, A = some ad → B ≤ ad.block) : FarS B (.slice A n c) := fun ad n' c' e => by
  injection e with e _ _
  exact h ad e
theorem liesF_far {B : Nat} {w : World} {b : Blo} {P T : Value} (h : LiesF (B + 1) w b P T) : PtFar B (.blk b) (.iface 30 (.agg (bloC b P T))) := by
  obtain ⟨A, c, D, d, rfl, rfl, _, _, h5, h6⟩ := h
  exact far_blk (farS_mk fun ad e => by have := h5 ad e; omega) (farS_mk fun ad e => by have := h6 ad e; omega)
/-- What read tells, and leaves of its reader. -/
def readQ (g : Nat) (z : Pt × (List UInt8 × Int)) (w : World) (e : Ending) (w' : World) : Prop := ∃ v, e = .returned v ∧ PtIs w' z.1 v ∧ PtWf z.1 ∧ leaves g z.2 w w' ∧ PtFar w.heap.size z.1 v
theorem oneM_wf {v : Int} (hv : inI v) (q : List UInt8 × Int) : (oneM v q).1.wf := ⟨fitM_in (numV_pos _), hv, takeC_wf _⟩
theorem takeBM_wf (p : List UInt8 × Int) : (takeB p).1.wf := by
  unfold takeB
  split
  · exact zeroB_wf
  · exact readB_wf p
theorem rows_rd {w W : World} {v : Value} {L : List Tmo} (h : W.ownsRow w.heap.size 26 10 v L.length (L.flatMap tmL)) : ∃ A c, v = .slice A L.length c ∧ Rd tmL 10 W A L ∧ ∀ ad, A = some ad → w.heap.size ≤ ad.block := by
  obtain ⟨A, c, e, hr, hf⟩ := Rd.of_row (f := tmL) (k := 10) (fun _ => rfl) h
  exact ⟨A, c, e, hr, fun ad e => (hf ad e).1⟩
set_option maxHeartbeats 1000000 in
set_option maxRecDepth 100000 in
theorem read_1 (g : Nat) (p : List UInt8 × Int) (w : World) (h : Rdr w g p) (hT : ∀ W, w.grownBy W (some g) → Tabs W) : Calls Tryz.prog 40 #[.pointer (some ⟨g, 0, none⟩), .int .i64 1] w (readQ g (.blk (takeB p).1, (takeB p).2) w) := by
  have hB := takeB_any g p w h hT
  have hwf : (takeB p).1.wf := takeBM_wf p
  obtain ⟨z, hz⟩ : ∃ z, z = takeB p := ⟨_, rfl⟩
  rw [← hz] at hB hwf ⊢
  clear hz h hT
  go_enter Tryz.func40, Tryz.ntmps40
  go_wp2_with (go_at_call 69; refine hB.mono ?_; rintro e w1 ⟨P, T, rfl, hL, hl⟩)
  go_ret
  exact ⟨_, rfl, ⟨P, T, rfl, hL.lies⟩, hwf, hl, liesF_far hL⟩
set_option maxHeartbeats 1000000 in
set_option maxRecDepth 100000 in
theorem read_9 (g : Nat) (p : List UInt8 × Int) (w : World) (h : Rdr w g p) (hT : ∀ W, w.grownBy W (some g) → Tabs W) : Calls Tryz.prog 40 #[.pointer (some ⟨g, 0, none⟩), .int .i64 9] w (readQ g (.blk (takeB p).1, (takeB p).2) w) := by
  have hB := takeB_any g p w h hT
  have hwf : (takeB p).1.wf := takeBM_wf p
  obtain ⟨z, hz⟩ : ∃ z, z = takeB p := ⟨_, rfl⟩
  rw [← hz] at hB hwf ⊢
  clear hz h hT
  go_enter Tryz.func40, Tryz.ntmps40
  go_wp2_with (go_at_call 69; refine hB.mono ?_; rintro e w1 ⟨P, T, rfl, hL, hl⟩)
  go_ret
  exact ⟨_, rfl, ⟨P, T, rfl, hL.lies⟩, hwf, hl, liesF_far hL⟩
set_option maxHeartbeats 1000000 in
set_option maxRecDepth 100000 in
theorem read_2 (g : Nat) (p : List UInt8 × Int) (w : World) (h : Rdr w g p) : Calls Tryz.prog 40 #[.pointer (some ⟨g, 0, none⟩), .int .i64 2] w (readQ g (.crt (takeC p).1, (takeC p).2) w) := by
  have hC := c_take g p w h
  have hwf := takeC_wf p
  obtain ⟨z, hz⟩ : ∃ z, z = takeC p := ⟨_, rfl⟩
  rw [← hz] at hC hwf ⊢
  clear hz h
  go_enter Tryz.func40, Tryz.ntmps40
  go_wp2_with (go_at_call 70; refine hC.mono ?_; rintro e w1 ⟨rfl, hl⟩)
  go_ret
  exact ⟨_, rfl, rfl, hwf, hl, trivial⟩
set_option maxHeartbeats 1000000 in
set_option maxRecDepth 100000 in
theorem read_5 (g : Nat) (p : List UInt8 × Int) (w : World) (h : Rdr w g p) : Calls Tryz.prog 40 #[.pointer (some ⟨g, 0, none⟩), .int .i64 5] w (readQ g (.crt (takeC p).1, (takeC p).2) w) := by
  have hC := c_take g p w h
  have hwf := takeC_wf p
  obtain ⟨z, hz⟩ : ∃ z, z = takeC p := ⟨_, rfl⟩
  rw [← hz] at hC hwf ⊢
  clear hz h
  go_enter Tryz.func40, Tryz.ntmps40
  go_wp2_with (go_at_call 70; refine hC.mono ?_; rintro e w1 ⟨rfl, hl⟩)
  go_ret
  exact ⟨_, rfl, rfl, hwf, hl, trivial⟩
set_option maxHeartbeats 1000000 in
set_option maxRecDepth 100000 in
theorem read_10 (g : Nat) (p : List UInt8 × Int) (w : World) (h : Rdr w g p) : Calls Tryz.prog 40 #[.pointer (some ⟨g, 0, none⟩), .int .i64 10] w (readQ g (.crt (takeC p).1, (takeC p).2) w) := by
  have hC := c_take g p w h
  have hwf := takeC_wf p
  obtain ⟨z, hz⟩ : ∃ z, z = takeC p := ⟨_, rfl⟩
  rw [← hz] at hC hwf ⊢
  clear hz h
  go_enter Tryz.func40, Tryz.ntmps40
  go_wp2_with (go_at_call 70; refine hC.mono ?_; rintro e w1 ⟨rfl, hl⟩)
  go_ret
  exact ⟨_, rfl, rfl, hwf, hl, trivial⟩
set_option maxHeartbeats 1000000 in
set_option maxRecDepth 100000 in
theorem read_11 (g : Nat) (p : List UInt8 × Int) (w : World) (h : Rdr w g p) (hT : ∀ W, w.grownBy W (some g) → Tabs W) : Calls Tryz.prog 40 #[.pointer (some ⟨g, 0, none⟩), .int .i64 11] w (readQ g (.txx (takeT p).1, (takeT p).2) w) := by
  have hC := take_any g p w h hT
  have hwf := takeT_wf p
  obtain ⟨z, hz⟩ : ∃ z, z = takeT p := ⟨_, rfl⟩
  rw [← hz] at hC hwf ⊢
  clear hz h hT
  go_enter Tryz.func40, Tryz.ntmps40
  go_wp2_with (go_at_call 72; refine hC.mono ?_; rintro e w1 ⟨rfl, hl⟩)
  go_ret
  exact ⟨_, rfl, rfl, hwf, hl, trivial⟩
set_option maxHeartbeats 1000000 in
set_option maxRecDepth 100000 in
theorem read_4 (g : Nat) (p : List UInt8 × Int) (w : World) (h : Rdr w g p) : Calls Tryz.prog 40 #[.pointer (some ⟨g, 0, none⟩), .int .i64 4] w (readQ g (.prf (listG (oneM (fitM (numV p))) (mostV 10 (numS p)).toNat (mostS 10 (numS p))), itG (oneM (fitM (numV p))) (mostV 10 (numS p)).toNat (mostS 10 (numS p))) w) := by
  have hP := readPrf_any g p w h
  have hv : inI (fitM (numV p)) := fitM_in (numV_pos p)
  have hn := mostV_rng 10 (numS p) (by omega)
  obtain ⟨v, ev⟩ : ∃ v, v = fitM (numV p) := ⟨_, rfl⟩
  obtain ⟨n, en⟩ : ∃ n, n = (mostV 10 (numS p)).toNat := ⟨_, rfl⟩
  obtain ⟨s, es⟩ : ∃ s, s = mostS 10 (numS p) := ⟨_, rfl⟩
  have hn2 : n ≤ 10 := by omega
  rw [← ev, ← en, ← es] at hP
  rw [← ev] at hv
  rw [← ev, ← en, ← es]
  have hw : PtWf (.prf (listG (oneM v) n s)) := ⟨listG_wf _ (fun t : Tmo => t.wf) (fun q => oneM_wf hv q) _ _, by rw [listG_len]; omega⟩
  obtain ⟨L, eL⟩ : ∃ L, L = listG (oneM v) n s := ⟨_, rfl⟩
  obtain ⟨q, eq⟩ : ∃ q, q = itG (oneM v) n s := ⟨_, rfl⟩
  rw [← eL, ← eq] at hP
  rw [← eL] at hw
  rw [← eL, ← eq]
  clear eL eq ev en es hv hn hn2 h
  go_enter Tryz.func40, Tryz.ntmps40
  go_wp2_with (go_at_call 71; refine hP.mono ?_; rintro e w1 ⟨v1, rfl, hrow, hl⟩; obtain ⟨A1, c1, rfl, hr1, hf1⟩ := rows_rd hrow)
  go_ret
  exact ⟨_, rfl, ⟨A1, c1, rfl, hr1⟩, hw, hl, far_prf (farS_mk hf1)⟩
set_option maxHeartbeats 1000000 in
set_option maxRecDepth 100000 in
theorem read_6 (g : Nat) (p : List UInt8 × Int) (w : World) (h : Rdr w g p) : Calls Tryz.prog 40 #[.pointer (some ⟨g, 0, none⟩), .int .i64 6] w (readQ g (.inv (fitM (numV p)) (fitM (numV (numS p))), numS (numS p)) w) := by
  have hwf0 : inI (fitM (numV p)) := fitM_in (numV_pos p)
  have hwf1 : inI (fitM (numV (numS p))) := fitM_in (numV_pos _)
  obtain ⟨f0, e0⟩ : ∃ f, fitM (numV p) = f := ⟨_, rfl⟩
  obtain ⟨f1, e1⟩ : ∃ f, fitM (numV (numS p)) = f := ⟨_, rfl⟩
  rw [e0] at hwf0
  rw [e1] at hwf1
  rw [e0, e1]
  have hN0 := c_rnum g p w h
  have hN1 := fun W (hl : leaves g (numS p) w W) => c_rnum g (numS p) W hl.1
  obtain ⟨a0, i0⟩ : ∃ a, a = numV p := ⟨_, rfl⟩
  obtain ⟨a1, i1⟩ : ∃ a, a = numV (numS p) := ⟨_, rfl⟩
  rw [← i0] at hN0 e0
  rw [← i1] at hN1 e1
  have hF0 := fitM_is e0
  have hF1 := fitM_is e1
  obtain ⟨q1, j1⟩ : ∃ q, q = numS p := ⟨_, rfl⟩
  rw [← j1] at hN0 hN1
  rw [← j1]
  obtain ⟨q2, j2⟩ : ∃ q, q = numS q1 := ⟨_, rfl⟩
  rw [← j2] at hN1
  rw [← j2]
  have HN0 := Lib.hid hN0
  have HN1 := Lib.hid hN1
  have HF0 := Lib.hid hF0
  have HF1 := Lib.hid hF1
  clear hN0 hN1 hF0 hF1 e0 e1 i0 i1 j1 j2 h
  go_enter Tryz.func40, Tryz.ntmps40
  go_wp2_with (first
    | (go_at_call 39; (with_reducible refine HN0.out.mono ?_); rintro e w1 ⟨rfl, hl1⟩)
    | (go_at_call 38; (with_reducible refine (HF0.out _).mono ?_); rintro e w1b ⟨rfl, rfl⟩)
    | (go_at_call 39; (refine (HN1.out _ hl1).mono ?_); rintro e w2 ⟨rfl, hl2⟩)
    | (go_at_call 38; (with_reducible refine (HF1.out _).mono ?_); rintro e w2b ⟨rfl, rfl⟩)
    | (refine wpList_build rfl _ _ rfl #[(0, .int .i64 f0), (1, .int .i64 f1)] rfl (build_inv _ _ _) ?_))
  go_ret
  exact ⟨_, rfl, rfl, ⟨hwf0, hwf1⟩, hl1.trans hl2, trivial⟩
set_option maxHeartbeats 1000000 in
set_option maxRecDepth 100000 in
theorem read_12 (g : Nat) (p : List UInt8 × Int) (w : World) (h : Rdr w g p) : Calls Tryz.prog 40 #[.pointer (some ⟨g, 0, none⟩), .int .i64 12] w (readQ g (.inv (fitM (numV p)) (fitM (numV (numS p))), numS (numS p)) w) := by
  have hwf0 : inI (fitM (numV p)) := fitM_in (numV_pos p)
  have hwf1 : inI (fitM (numV (numS p))) := fitM_in (numV_pos _)
  obtain ⟨f0, e0⟩ : ∃ f, fitM (numV p) = f := ⟨_, rfl⟩
  obtain ⟨f1, e1⟩ : ∃ f, fitM (numV (numS p)) = f := ⟨_, rfl⟩
  rw [e0] at hwf0
  rw [e1] at hwf1
  rw [e0, e1]
  have hN0 := c_rnum g p w h
  have hN1 := fun W (hl : leaves g (numS p) w W) => c_rnum g (numS p) W hl.1
  obtain ⟨a0, i0⟩ : ∃ a, a = numV p := ⟨_, rfl⟩
  obtain ⟨a1, i1⟩ : ∃ a, a = numV (numS p) := ⟨_, rfl⟩
  rw [← i0] at hN0 e0
  rw [← i1] at hN1 e1
  have hF0 := fitM_is e0
  have hF1 := fitM_is e1
  obtain ⟨q1, j1⟩ : ∃ q, q = numS p := ⟨_, rfl⟩
  rw [← j1] at hN0 hN1
  rw [← j1]
  obtain ⟨q2, j2⟩ : ∃ q, q = numS q1 := ⟨_, rfl⟩
  rw [← j2] at hN1
  rw [← j2]
  have HN0 := Lib.hid hN0
  have HN1 := Lib.hid hN1
  have HF0 := Lib.hid hF0
  have HF1 := Lib.hid hF1
  clear hN0 hN1 hF0 hF1 e0 e1 i0 i1 j1 j2 h
  go_enter Tryz.func40, Tryz.ntmps40
  go_wp2_with (first
    | (go_at_call 39; (with_reducible refine HN0.out.mono ?_); rintro e w1 ⟨rfl, hl1⟩)
    | (go_at_call 38; (with_reducible refine (HF0.out _).mono ?_); rintro e w1b ⟨rfl, rfl⟩)
    | (go_at_call 39; (refine (HN1.out _ hl1).mono ?_); rintro e w2 ⟨rfl, hl2⟩)
    | (go_at_call 38; (with_reducible refine (HF1.out _).mono ?_); rintro e w2b ⟨rfl, rfl⟩)
    | (refine wpList_build rfl _ _ rfl #[(0, .int .i64 f0), (1, .int .i64 f1)] rfl (build_inv _ _ _) ?_))
  go_ret
  exact ⟨_, rfl, rfl, ⟨hwf0, hwf1⟩, hl1.trans hl2, trivial⟩
set_option maxHeartbeats 1000000 in
set_option maxRecDepth 100000 in
theorem read_8 (g : Nat) (p : List UInt8 × Int) (w : World) (h : Rdr w g p) : Calls Tryz.prog 40 #[.pointer (some ⟨g, 0, none⟩), .int .i64 8] w (readQ g (.wan (fitM (numV p)) (fitM (numV (numS p))), numS (numS p)) w) := by
  have hwf0 : inI (fitM (numV p)) := fitM_in (numV_pos p)
  have hwf1 : inI (fitM (numV (numS p))) := fitM_in (numV_pos _)
  obtain ⟨f0, e0⟩ : ∃ f, fitM (numV p) = f := ⟨_, rfl⟩
  obtain ⟨f1, e1⟩ : ∃ f, fitM (numV (numS p)) = f := ⟨_, rfl⟩
  rw [e0] at hwf0
  rw [e1] at hwf1
  rw [e0, e1]
  have hN0 := c_rnum g p w h
  have hN1 := fun W (hl : leaves g (numS p) w W) => c_rnum g (numS p) W hl.1
  obtain ⟨a0, i0⟩ : ∃ a, a = numV p := ⟨_, rfl⟩
  obtain ⟨a1, i1⟩ : ∃ a, a = numV (numS p) := ⟨_, rfl⟩
  rw [← i0] at hN0 e0
  rw [← i1] at hN1 e1
  have hF0 := fitM_is e0
  have hF1 := fitM_is e1
  obtain ⟨q1, j1⟩ : ∃ q, q = numS p := ⟨_, rfl⟩
  rw [← j1] at hN0 hN1
  rw [← j1]
  obtain ⟨q2, j2⟩ : ∃ q, q = numS q1 := ⟨_, rfl⟩
  rw [← j2] at hN1
  rw [← j2]
  have HN0 := Lib.hid hN0
  have HN1 := Lib.hid hN1
  have HF0 := Lib.hid hF0
  have HF1 := Lib.hid hF1
  clear hN0 hN1 hF0 hF1 e0 e1 i0 i1 j1 j2 h
  go_enter Tryz.func40, Tryz.ntmps40
  go_wp2_with (first
    | (go_at_call 39; (with_reducible refine HN0.out.mono ?_); rintro e w1 ⟨rfl, hl1⟩)
    | (go_at_call 38; (with_reducible refine (HF0.out _).mono ?_); rintro e w1b ⟨rfl, rfl⟩)
    | (go_at_call 39; (refine (HN1.out _ hl1).mono ?_); rintro e w2 ⟨rfl, hl2⟩)
    | (go_at_call 38; (with_reducible refine (HF1.out _).mono ?_); rintro e w2b ⟨rfl, rfl⟩)
    | (refine wpList_build rfl _ _ rfl #[(0, .int .i64 f0), (1, .int .i64 f1)] rfl (build_wan _ _ _) ?_))
  go_ret
  exact ⟨_, rfl, rfl, ⟨hwf0, hwf1⟩, hl1.trans hl2, trivial⟩
set_option maxHeartbeats 1000000 in
set_option maxRecDepth 100000 in
theorem read_7 (g : Nat) (p : List UInt8 × Int) (w : World) (h : Rdr w g p) : Calls Tryz.prog 40 #[.pointer (some ⟨g, 0, none⟩), .int .i64 7] w (readQ g (.ele (fitM (numV p)) (fitMU (numV (numS p))), numS (numS p)) w) := by
  have hp1 := numV_pos (numS p)
  have hu : (fitM (numV (numS p))) % 4294967296 = ((fitMU (numV (numS p)) : Nat) : Int) := by
    unfold fitM fitMU
    by_cases c : 2147483647 < numV (numS p)
    · rw [if_pos c, if_pos c]; rfl
    · rw [if_neg c, if_neg c]; omega
  have hul : fitMU (numV (numS p)) < 4294967296 := by
    unfold fitMU
    by_cases c : 2147483647 < numV (numS p)
    · rw [if_pos c]; omega
    · rw [if_neg c]; omega
  obtain ⟨u, eu⟩ : ∃ u, u = fitMU (numV (numS p)) := ⟨_, rfl⟩
  rw [← eu] at hu hul
  rw [← eu]
  have hwf0 : inI (fitM (numV p)) := fitM_in (numV_pos p)
  obtain ⟨f0, e0⟩ : ∃ f, fitM (numV p) = f := ⟨_, rfl⟩
  obtain ⟨f1, e1⟩ : ∃ f, fitM (numV (numS p)) = f := ⟨_, rfl⟩
  rw [e0] at hwf0
  rw [e1] at hu
  rw [e0]
  have hN0 := c_rnum g p w h
  have hN1 := fun W (hl : leaves g (numS p) w W) => c_rnum g (numS p) W hl.1
  obtain ⟨a0, i0⟩ : ∃ a, a = numV p := ⟨_, rfl⟩
  obtain ⟨a1, i1⟩ : ∃ a, a = numV (numS p) := ⟨_, rfl⟩
  rw [← i0] at hN0 e0
  rw [← i1] at hN1 e1
  have hF0 := fitM_is e0
  have hF1 := fitM_is e1
  obtain ⟨q1, j1⟩ : ∃ q, q = numS p := ⟨_, rfl⟩
  rw [← j1] at hN0 hN1
  rw [← j1]
  obtain ⟨q2, j2⟩ : ∃ q, q = numS q1 := ⟨_, rfl⟩
  rw [← j2] at hN1
  rw [← j2]
  have HN0 := Lib.hid hN0
  have HN1 := Lib.hid hN1
  have HF0 := Lib.hid hF0
  have HF1 := Lib.hid hF1
  clear hN0 hN1 hF0 hF1 e0 e1 i0 i1 j1 j2 h eu hp1
  go_enter Tryz.func40, Tryz.ntmps40
  go_wp2_with (first
    | (go_at_call 39; (with_reducible refine HN0.out.mono ?_); rintro e w1 ⟨rfl, hl1⟩)
    | (go_at_call 38; (with_reducible refine (HF0.out _).mono ?_); rintro e w1b ⟨rfl, rfl⟩)
    | (go_at_call 39; (refine (HN1.out _ hl1).mono ?_); rintro e w2 ⟨rfl, hl2⟩)
    | (go_at_call 38; (with_reducible refine (HF1.out _).mono ?_); rintro e w2b ⟨rfl, rfl⟩)
    | (refine wpList_build rfl _ _ rfl #[(0, .int .i64 f0), (1, .int .u32 u)] rfl (build_ele _ _ _) ?_))
  go_ret
  exact ⟨_, rfl, rfl, ⟨hwf0, hul⟩, hl1.trans hl2, trivial⟩
set_option maxHeartbeats 1000000 in
set_option maxRecDepth 100000 in
theorem read_3 (g : Nat) (p : List UInt8 × Int) (w : World) (h : Rdr w g p) : Calls Tryz.prog 40 #[.pointer (some ⟨g, 0, none⟩), .int .i64 3] w (readQ g (.tmo ⟨fitM (numV p), fitM (numV (numS p)), (takeC (numS (numS p))).1⟩, (takeC (numS (numS p))).2) w) := by
  have hwf0 : inI (fitM (numV p)) := fitM_in (numV_pos p)
  have hwf1 : inI (fitM (numV (numS p))) := fitM_in (numV_pos _)
  obtain ⟨f0, e0⟩ : ∃ f, fitM (numV p) = f := ⟨_, rfl⟩
  obtain ⟨f1, e1⟩ : ∃ f, fitM (numV (numS p)) = f := ⟨_, rfl⟩
  rw [e0] at hwf0
  rw [e1] at hwf1
  rw [e0, e1]
  have hN0 := c_rnum g p w h
  have hN1 := fun W (hl : leaves g (numS p) w W) => c_rnum g (numS p) W hl.1
  obtain ⟨a0, i0⟩ : ∃ a, a = numV p := ⟨_, rfl⟩
  obtain ⟨a1, i1⟩ : ∃ a, a = numV (numS p) := ⟨_, rfl⟩
  rw [← i0] at hN0 e0
  rw [← i1] at hN1 e1
  have hF0 := fitM_is e0
  have hF1 := fitM_is e1
  have hC := fun W (hl : leaves g (numS (numS p)) w W) => c_take g (numS (numS p)) W hl.1
  have hcw := takeC_wf (numS (numS p))
  obtain ⟨q1, j1⟩ : ∃ q, q = numS p := ⟨_, rfl⟩
  rw [← j1] at hN0 hN1 hC hcw
  rw [← j1]
  obtain ⟨q2, j2⟩ : ∃ q, q = numS q1 := ⟨_, rfl⟩
  rw [← j2] at hN1 hC hcw
  rw [← j2]
  obtain ⟨c, jc⟩ : ∃ c, c = (takeC q2).1 := ⟨_, rfl⟩
  obtain ⟨q3, j3⟩ : ∃ q, q = (takeC q2).2 := ⟨_, rfl⟩
  rw [← jc, ← j3] at hC
  rw [← jc] at hcw
  rw [← jc, ← j3]
  have HC := Lib.hid hC
  have HN0 := Lib.hid hN0
  have HN1 := Lib.hid hN1
  have HF0 := Lib.hid hF0
  have HF1 := Lib.hid hF1
  clear hN0 hN1 hF0 hF1 e0 e1 i0 i1 j1 j2 jc j3 hC h
  go_enter Tryz.func40, Tryz.ntmps40
  go_wp2_with (first
    | (go_at_call 39; (with_reducible refine HN0.out.mono ?_); rintro e w1 ⟨rfl, hl1⟩)
    | (go_at_call 38; (with_reducible refine (HF0.out _).mono ?_); rintro e w1b ⟨rfl, rfl⟩)
    | (go_at_call 39; (refine (HN1.out _ hl1).mono ?_); rintro e w2 ⟨rfl, hl2⟩)
    | (go_at_call 38; (with_reducible refine (HF1.out _).mono ?_); rintro e w2b ⟨rfl, rfl⟩)
    | (go_at_call 70; refine (HC.out _ (hl1.trans hl2)).mono ?_; rintro e w3 ⟨rfl, hl3⟩)
    | (refine wpList_build rfl _ _ rfl #[(0, .int .i64 f0), (1, .int .i64 f1), (2, .agg (crtC c))] rfl (build_tm f0 f1 c _) ?_))
  go_ret
  exact ⟨_, rfl, rfl, ⟨hwf0, hwf1, hcw⟩, (hl1.trans hl2).trans hl3, trivial⟩
set_option maxHeartbeats 1000000 in
set_option maxRecDepth 100000 in
theorem read_no (k : Int) (g : Nat) (p : List UInt8 × Int) (w : World) (h : Rdr w g p) (hk : k ≠ 1 ∧ k ≠ 9 ∧ k ≠ 2 ∧ k ≠ 5 ∧ k ≠ 10 ∧ k ≠ 3 ∧ k ≠ 4 ∧ k ≠ 6 ∧ k ≠ 12 ∧ k ≠ 7 ∧ k ≠ 8 ∧ k ≠ 11) : Calls Tryz.prog 40 #[.pointer (some ⟨g, 0, none⟩), .int .i64 k] w (readQ g (.non, failS 140 p) w) := by
  have q1 : (k == 1) = false := by have := hk.1; simpa using this
  have q9 : (k == 9) = false := by have := hk.2.1; simpa using this
  have q2 : (k == 2) = false := by have := hk.2.2.1; simpa using this
  have q5 : (k == 5) = false := by have := hk.2.2.2.1; simpa using this
  have q10 : (k == 10) = false := by have := hk.2.2.2.2.1; simpa using this
  have q3 : (k == 3) = false := by have := hk.2.2.2.2.2.1; simpa using this
  have q4 : (k == 4) = false := by have := hk.2.2.2.2.2.2.1; simpa using this
  have q6 : (k == 6) = false := by have := hk.2.2.2.2.2.2.2.1; simpa using this
  have q12 : (k == 12) = false := by have := hk.2.2.2.2.2.2.2.2.1; simpa using this
  have q7 : (k == 7) = false := by have := hk.2.2.2.2.2.2.2.2.2.1; simpa using this
  have q8 : (k == 8) = false := by have := hk.2.2.2.2.2.2.2.2.2.2.1; simpa using this
  have q11 : (k == 11) = false := by have := hk.2.2.2.2.2.2.2.2.2.2.2; simpa using this
  have hF := L3.fail_any g p 140 w h
  clear hk h
  go_enter Tryz.func40, Tryz.ntmps40
  go_wp2_with (go_at_call 68; refine hF.mono ?_; rintro e w1 ⟨rfl, hl1⟩)
  go_ret
  exact ⟨_, rfl, rfl, trivial, hl1, trivial⟩
theorem readM_any (k : Int) (g : Nat) (p : List UInt8 × Int) (w : World) (h : Rdr w g p) (hT : ∀ W, w.grownBy W (some g) → Tabs W) : Calls Tryz.prog 40 #[.pointer (some ⟨g, 0, none⟩), .int .i64 k] w (readQ g (readP k p) w) := by
  unfold readP
  by_cases c1 : hasB k
  · rw [if_pos c1]
    rcases c1 with rfl | rfl
    · exact read_1 g p w h hT
    · exact read_9 g p w h hT
  rw [if_neg c1]
  by_cases c2 : hasC k
  · rw [if_pos c2]
    rcases c2 with rfl | rfl | rfl
    · exact read_2 g p w h
    · exact read_5 g p w h
    · exact read_10 g p w h
  rw [if_neg c2]
  by_cases c3 : k = 3
  · rw [if_pos c3]; subst c3; exact read_3 g p w h
  rw [if_neg c3]
  by_cases c4 : k = 4
  · rw [if_pos c4]; subst c4; exact read_4 g p w h
  rw [if_neg c4]
  by_cases c5 : hasV k
  · rw [if_pos c5]
    rcases c5 with rfl | rfl
    · exact read_6 g p w h
    · exact read_12 g p w h
  rw [if_neg c5]
  by_cases c6 : k = 7
  · rw [if_pos c6]; subst c6; exact read_7 g p w h
  rw [if_neg c6]
  by_cases c7 : k = 8
  · rw [if_pos c7]; subst c7; exact read_8 g p w h
  rw [if_neg c7]
  by_cases c8 : k = 11
  · rw [if_pos c8]; subst c8; exact read_11 g p w h hT
  rw [if_neg c8]
  refine read_no k g p w h ?_
  unfold hasB at c1
  unfold hasC at c2
  unfold hasV at c5
  omega
end Go.Proofs.YtgmejaiifibfoaaGreatDoor
