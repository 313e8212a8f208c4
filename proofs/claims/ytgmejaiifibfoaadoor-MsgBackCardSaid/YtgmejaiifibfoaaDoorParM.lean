/-
  The message of all bytes: by the code.
-/
import Derived.Test.YtgmejaiifibfoaaDoorChkM
import Derived.Test.YtgmejaiifibfoaaDoorReadM
import Derived.Test.YtgmejaiifibfoaaDoorB4
set_option linter.unusedSimpArgs false
set_option linter.unusedVariables false
set_option maxRecDepth 10000
namespace Go.Proofs.YtgmejaiifibfoaaDoor
open Go.RowKit Go.Maps Go.Lib
open L3 (Blk Reads Rdr leaves numS failS rdN mostV mostS doneV)
open L6 (Turn)
open L11 (Crt zeroC crtL crtC mayV takeC crtInfo crtC_ones)

theorem far_none (B : Nat) : FarS B nS0 := fun ad n c e => by unfold nS0 at e; injection e with e; cases e
theorem made_far (k : Int) (p : Pt) (v : Value) (w : World) (h : PtIs w p v) : ∃ P Q T, (∀ W, Calls Tryd.prog 20 #[.int .i64 k, v] W (gives (.agg (mesC (madeM k p) P Q T)) W)) ∧ (∀ W, Below w.heap.size w W → LiesM W (madeM k p) P Q T) ∧ (∀ B, PtFar B p v → FarS B P ∧ FarS B Q ∧ FarS B T) := by
  have z : ∀ B, FarS B nS0 ∧ FarS B nS0 ∧ FarS B nS0 := fun B => ⟨far_none B, far_none B, far_none B⟩
  cases p
  case blk b =>
    obtain ⟨P, T, rfl, A, c, D, d, rfl, rfl, hp, ht⟩ := h
    exact ⟨_, _, _, fun W => made_B k b A _ c D _ d W, fun W hb => ⟨none, 0, rfl, Rd.nil, A, c, D, d, rfl, rfl, hp.below hb, ht.below hb⟩, fun B hf => ⟨far_none B, hf _ _ rfl⟩⟩
  case crt c => obtain rfl : v = _ := h; exact ⟨_, _, _, fun W => made_C k c W, fun W hb => liesM_zero W _ rfl rfl, fun B _ => z B⟩
  case tmo t => obtain rfl : v = _ := h; exact ⟨_, _, _, fun W => made_T k t W, fun W hb => liesM_zero W _ rfl rfl, fun B _ => z B⟩
  case prf l =>
    obtain ⟨A, c, rfl, hr⟩ := h
    exact ⟨_, _, _, fun W => made_P k l A _ c W, fun W hb => ⟨A, c, rfl, hr.below hb, lies_zero W⟩, fun B hf => ⟨hf _ rfl, far_none B, far_none B⟩⟩
  case inv s n => obtain rfl : v = _ := h; exact ⟨_, _, _, fun W => made_I k s n W, fun W hb => liesM_zero W _ rfl rfl, fun B _ => z B⟩
  case ele n s => obtain rfl : v = _ := h; exact ⟨_, _, _, fun W => made_E k n s W, fun W hb => liesM_zero W _ rfl rfl, fun B _ => z B⟩
  case wan s n => obtain rfl : v = _ := h; exact ⟨_, _, _, fun W => made_W k s n W, fun W hb => liesM_zero W _ rfl rfl, fun B _ => z B⟩
  case txx t => obtain rfl : v = _ := h; exact ⟨_, _, _, fun W => made_X k t W, fun W hb => liesM_zero W _ rfl rfl, fun B _ => z B⟩
  case non => obtain rfl : v = _ := h; exact ⟨_, _, _, fun W => made_N k W, fun W hb => liesM_zero W _ rfl rfl, fun B _ => z B⟩
theorem LiesM.turn {B : Nat} {S : Nat → Prop} {w w' : World} {m : Mes} {P Q T : Value} (h : LiesM w m P Q T) (hf : FarS B P ∧ FarS B Q ∧ FarS B T) (ht : Turn S w w') (hS : ∀ k, S k → k < B) : LiesM w' m P Q T := by
  obtain ⟨A, c, rfl, hr, D, d, E, e, rfl, rfl, hp, hx⟩ := h
  have off : ∀ {A : Option Addr} {n c : Nat}, FarS B (.slice A n c) → Off S A := fun {A n c} hfar => Off.of_ge (fun ad e => hfar ad n c (by rw [e])) hS
  exact ⟨A, c, rfl, hr.kept ht (off hf.1), D, d, E, e, rfl, rfl, hp.kept ht (off hf.2.1), hx.kept ht (off hf.2.2)⟩
/-- What Parse tells. -/
def parsedM (l : List UInt8) (w : World) (e : Ending) (w' : World) : Prop :=
  ∃ P Q T, e = .returned (.tuple #[.agg (mesC (parseM l).1 P Q T), .int .i64 (parseM l).2]) ∧ LiesM w' (parseM l).1 P Q T ∧ Below w.heap.size w w'
set_option maxHeartbeats 2000000 in
set_option maxRecDepth 100000 in
theorem parseM_long (l : List UInt8) (w : World) (hl : l.length ≤ 9223372036854775807) (h0 : 65536 < l.length) : Calls Tryd.prog 8 #[.string (str l)] w (parsedM l w) := by
  have hX : parseM l = (zeroM, 2) := by unfold parseM; rw [if_pos h0]
  have k0 := mes_new w 40 zeroM nS0 nS0 nS0
  have hb0 := below_new w (.cells (mesC zeroM nS0 nS0 nS0) 40)
  have Z0 := Lib.hid (And.intro k0 hb0)
  unfold parsedM
  rw [hX]
  have hsz := str_size l
  obtain ⟨s, hs⟩ : ∃ s, s = str l := ⟨_, rfl⟩
  rw [← hs] at hsz
  rw [← hs]
  have h1 : 65536 < s.size := by omega
  have h2 : s.size ≤ 9223372036854775807 := by omega
  clear k0 hb0 hX hs hsz h0 hl
  go_enter Tryd.func8, Tryd.ntmps8
  go_upto_region 1 with fail
  refine name_world (fun w0 hw0 => ?_)
  have hk0 : Blk w0 w.heap.size 40 (mesC zeroM nS0 nS0 nS0) := by rw [hw0]; exact Z0.out.1
  have hb0 : Below w.heap.size w w0 := by rw [hw0]; exact Z0.out.2
  clear hw0 Z0
  go_wp2_with (first
    | (refine wpList_build rfl _ _ rfl #[] rfl (build_m0 _) ?_)
    | (refine wpList_store_row rfl _ _ _ rfl w.heap.size (mesC zeroM nS0 nS0 nS0) rfl rfl _ _ hk0 mesInfo rfl (mesC_onesZ _) ?_))
  (try simp only [Exit.inBlock, Exit.then])
  refine bodyPost_ret (v := .tuple #[.agg (mesC zeroM nS0 nS0 nS0), .int .i64 2]) (results_row2 rfl _ _ w.heap.size rfl (.int .i64 2) rfl _ (mesC zeroM nS0 nS0 nS0) _ _ (blk_setRow hk0) Tryd.underlying40 rfl mesInfo) rfl ?_
  exact ⟨_, _, _, rfl, liesM_zero _ _ rfl rfl, below_setRow hb0 (Nat.le_refl _)⟩
set_option maxHeartbeats 4000000 in
set_option maxRecDepth 100000 in
theorem parseM_short (l : List UInt8) (w : World) (h0 : ¬ 65536 < l.length) (hT : Tabs w) : Calls Tryd.prog 8 #[.string (str l)] w (parsedM l w) := by
  have hX : parseM l = endM (readM (l, 0)) := by unfold parseM; rw [if_neg h0]
  have hRM : readM (l, 0) = (madeM (fitM (numV (l, 0))) (readP (fitM (numV (l, 0))) (numS (l, 0))).1, (readP (fitM (numV (l, 0))) (numS (l, 0))).2) := by unfold readM; rw [rest_readP]
  have k0 := mes_new w 40 zeroM nS0 nS0 nS0
  have hb0 := below_new w (.cells (mesC zeroM nS0 nS0 nS0) 40)
  have Z0 := Lib.hid (And.intro k0 hb0)
  unfold parsedM
  rw [hX, hRM]
  have hki : inI (fitM (numV (l, 0))) := fitM_in (numV_pos _)
  have hN := fun g W h => c_rnum g (l, 0) W h
  obtain ⟨a, ha⟩ : ∃ a, a = numV (l, (0 : Int)) := ⟨_, rfl⟩
  obtain ⟨q1, hq1⟩ : ∃ q, q = numS (l, (0 : Int)) := ⟨_, rfl⟩
  rw [← ha] at hki
  rw [← ha, ← hq1] at hN
  rw [← ha, ← hq1]
  obtain ⟨k, hk⟩ : ∃ k, fitM a = k := ⟨_, rfl⟩
  rw [hk] at hki
  rw [hk]
  have hF := fitM_is hk
  have HR := Lib.hid (fun g W h hT => readM_any k g q1 W h hT)
  obtain ⟨z, hz⟩ : ∃ z, z = readP k q1 := ⟨_, rfl⟩
  rw [← hz] at HR
  rw [← hz]
  obtain ⟨p, q⟩ := z
  have HMADE := Lib.hid (fun v W (hv : PtIs W p v) => made_far k p v W hv)
  have HWF := Lib.hid (fun (h : PtWf p) => made_wf hki h)
  dsimp only
  obtain ⟨m, hm⟩ : ∃ m, m = madeM k p := ⟨_, rfl⟩
  rw [← hm] at HMADE HWF
  rw [← hm]
  have HN := Lib.hid hN
  have HF := Lib.hid hF
  have HT := Lib.hid hT
  have hsz := str_size l
  have hlst := str_list l
  obtain ⟨s, hs⟩ : ∃ s, s = str l := ⟨_, rfl⟩
  rw [← hs] at hsz hlst
  rw [← hs]
  have h1 : ¬ 65536 < s.size := by omega
  have h2 : s.size ≤ 65536 := by omega
  have HSZ := Lib.hid (And.intro hsz hlst)
  clear k0 hb0 hX hRM hs hsz hlst h0 hT hki hN ha hq1 hk hF hz hm
  go_enter Tryd.func8, Tryd.ntmps8
  go_upto_region 1 with fail
  refine name_world (fun w0 hw0 => ?_)
  have hk0 : Blk w0 w.heap.size 40 (mesC zeroM nS0 nS0 nS0) := by rw [hw0]; exact Z0.out.1
  have hb0 : Below w.heap.size w w0 := by rw [hw0]; exact Z0.out.2
  clear hw0 Z0
  obtain ⟨c1, w1, hcv, hr1, hb1, hz1⟩ := L3.str_bytes w0 s
  rw [HSZ.out.2] at hr1
  have hw1 := nxt hb0 hb1
  have hk1 := hk0.below hb1 hk0.lt
  have hNw := L3.new_any _ _ _ c1 _ _ hr1 (by omega) (by omega)
  have HNw := Lib.hid hNw
  have H0 := hk0.lt
  clear hr1 hz1 hNw hk0
  go_upto_region 4 with (first
    | (go_at_call 17; refine HNw.out.mono ?_; rintro e w2 ⟨g, rfl, hg2, hrd2, hb2⟩))
  have hw2 := nxt hw1 hb2
  have hk2 := hk1.below hb2 hk1.lt
  have hgw : w.heap.size < g := by have := hk1.lt; omega
  have hTb := fun W (hW : w2.grownBy W (some g)) => tabs_grown HT.out hw2 (by omega) hW
  have hHT := Lib.hid hTb
  have hNm := HN.out g w2 hrd2
  clear hcv HNw hb1 hw1 hk1 hb2 hg2 hTb H0 hb0 HN
  go_upto_region 5 with (first
    | (go_at_call 19; refine hNm.mono ?_; rintro e w3 ⟨rfl, hl3⟩)
    | (go_at_call 18; refine (HF.out _).mono ?_; rintro e w3b ⟨rfl, rfl⟩))
  have hR := HR.out g w3 hl3.1 (fun W hW => hHT.out W (L3.grown_trans hl3.2 hW))
  clear hNm HF HR
  go_upto_region 6 with (first
    | (go_at_call 21; refine hR.mono ?_; rintro e w4 ⟨v, rfl, hv4, hpw, hl4, hfar⟩
       obtain ⟨P, Q, T, hMade, hLies, hFar⟩ := HMADE.out v w4 hv4; have hfar3 := hFar _ hfar
       obtain ⟨A0, a0, c0, B0, b0, d0, C0, e0, f0, rfl, rfl, rfl⟩ := (hLies w4 (Below.refl _ _)).form)
    | (go_at_call 20; refine (hMade _).mono ?_; unfold gives; rintro e w5 ⟨rfl, hb5⟩)
    | (refine wpList_store_new rfl _ _ _ rfl _ (mesC m (.slice A0 a0 c0) (.slice B0 b0 d0) (.slice C0 e0 f0)) rfl rfl _ _ mesInfo rfl (mesC_ones _ _ _ _ _ _ _ _ _ _) ?_))
  have hl34 := hl3.trans hl4
  have hw4 := below_leaves hw2 hl34 (by omega) (Nat.le_of_lt hk2.lt)
  have hk4 := hk2.grown hl34.2 (fun e => by injection e with e; omega)
  have hk5 := hk4.below hb5 hk4.lt
  have hw5 := nxt hw4 hb5
  have hr5 := rdr_below hl34.1 hb5 hl34.1.lt
  have hL5 := hLies w5 hb5
  have hb6 := below_new w5 (.cells (mesC m (.slice A0 a0 c0) (.slice B0 b0 d0) (.slice C0 e0 f0)) 40)
  have hx6 := mes_new w5 40 m (.slice A0 a0 c0) (.slice B0 b0 d0) (.slice C0 e0 f0)
  have hk6 := hk5.below hb6 hk5.lt
  have hr6 := rdr_below hr5 hb6 hr5.lt
  have hL6 := hL5.below hb6
  have hw6 := nxt hw5 hb6
  have hgG : w.heap.size < w5.heap.size := hk5.lt
  have hw3s : w.heap.size < w3.heap.size := Nat.lt_of_lt_of_le hk2.lt hl3.2.size
  have hFR := Lib.hid (And.intro hfar3 hw3s)
  have HWf := Lib.hid (HWF.out hpw)
  obtain ⟨G, hG⟩ : ∃ G, G = w5.heap.size := ⟨_, rfl⟩
  rw [← hG] at hx6 hgG
  rw [← hG]
  refine name_world (fun w6 hw6' => ?_)
  rw [← hw6'] at hx6 hk6 hr6 hL6 hw6
  have hT6 := HT.out.kept hw6
  clear hw6' hG hfar hFar hfar3 hw3s hl34 hw4 hk4 hk5 hw5 hr5 hL5 hb6 hb5 hLies hMade hv4 hpw hl4 hl3 hk2 hw2 hrd2 hgw hHT hR HMADE HWF
  have hD := L3.rdone_any g q w6 hr6
  obtain ⟨d, hd⟩ : ∃ d, d = doneV q := ⟨_, rfl⟩
  rw [← hd] at hD
  by_cases h0 : d ≠ 0
  · have hE : endM (m, q) = (zeroM, d) := by unfold endM; dsimp only; rw [← hd, if_pos h0]
    have HE := Lib.hid hE
    have q1 : (d != 0) = true := by simpa using h0
    have q2 : (d == 0) = false := by simpa using h0
    clear hE hd h0
    go_wp2_with (first
      | (go_at_call 22; refine hD.mono ?_; rintro e w7 ⟨rfl, rfl⟩)
      | (refine wpList_build rfl _ _ rfl #[] rfl (build_m0 _) ?_)
      | (refine wpList_store_row rfl _ _ _ rfl w.heap.size (mesC zeroM nS0 nS0 nS0) rfl rfl _ _ hk6 mesInfo rfl (mesC_onesZ _) ?_))
    (try simp only [Exit.inBlock, Exit.then])
    refine bodyPost_ret (v := .tuple #[.agg (mesC zeroM nS0 nS0 nS0), .int .i64 d]) (results_row2 rfl _ _ w.heap.size rfl (.int .i64 d) rfl _ (mesC zeroM nS0 nS0 nS0) _ _ (blk_setRow hk6) Tryd.underlying40 rfl mesInfo) rfl ?_
    rw [HE.out]
    exact ⟨_, _, _, rfl, liesM_zero _ _ rfl rfl, below_setRow hw6 (Nat.le_refl _)⟩
  have h0' : d = 0 := Decidable.not_not.1 h0
  subst h0'
  have hC := checkM_any m _ _ _ w6 HWf.out hL6 hT6
  have hE : endM (m, q) = if mayM m = false then (zeroM, 140) else (m, 0) := by unfold endM; dsimp only; rw [← hd, if_neg h0]
  clear hd h0
  obtain ⟨b, hb⟩ : ∃ b, b = mayM m := ⟨_, rfl⟩
  rw [← hb] at hC hE
  clear hb
  cases b
  · rw [if_pos rfl] at hE
    have HE := Lib.hid hE
    clear hE
    go_wp2_with (first
      | (go_at_call 22; refine hD.mono ?_; rintro e w7 ⟨rfl, rfl⟩)
      | (refine wpList_row_at rfl _ _ rfl G rfl _ _ _ _ hx6 Tryd.underlying40 rfl mesInfo ?_)
      | (go_at_call 12; refine hC.mono ?_; unfold gives errI; rintro e w7 ⟨rfl, hb7⟩; have hk7 := hk6.below hb7 hk6.lt; have hw7 := nxt hw6 hb7)
      | (refine wpList_build rfl _ _ rfl #[] rfl (build_m0 _) ?_)
      | (refine wpList_store_row rfl _ _ _ rfl w.heap.size (mesC zeroM nS0 nS0 nS0) rfl rfl _ _ hk7 mesInfo rfl (mesC_onesZ _) ?_))
    (try simp only [Exit.inBlock, Exit.then])
    refine bodyPost_ret (v := .tuple #[.agg (mesC zeroM nS0 nS0 nS0), .int .i64 140]) (results_row2 rfl _ _ w.heap.size rfl (.int .i64 140) rfl _ (mesC zeroM nS0 nS0 nS0) _ _ (blk_setRow hk7) Tryd.underlying40 rfl mesInfo) rfl ?_
    rw [HE.out]
    exact ⟨_, _, _, rfl, liesM_zero _ _ rfl rfl, below_setRow hw7 (Nat.le_refl _)⟩
  · rw [if_neg (by simp)] at hE
    have HE := Lib.hid hE
    have HLT := Lib.hid hgG
    clear hE
    go_wp2_with (first
      | (go_at_call 22; refine hD.mono ?_; rintro e w7 ⟨rfl, rfl⟩)
      | (refine wpList_row_at rfl _ _ rfl G rfl _ _ _ _ hx6 Tryd.underlying40 rfl mesInfo ?_)
      | (go_at_call 12; refine hC.mono ?_; unfold gives errI; rintro e w7 ⟨rfl, hb7⟩; have hk7 := hk6.below hb7 hk6.lt; have hw7 := nxt hw6 hb7; have hx7 := hx6.below hb7 hx6.lt; have hL7 := hL6.below hb7)
      | (refine wpList_row_at rfl _ _ rfl G rfl _ _ _ _ hx7 Tryd.underlying40 rfl mesInfo ?_)
      | (refine wpList_store_row rfl _ _ _ rfl w.heap.size (mesC m (.slice A0 a0 c0) (.slice B0 b0 d0) (.slice C0 e0 f0)) rfl rfl _ _ hk7 mesInfo rfl (mesC_ones _ _ _ _ _ _ _ _ _ _) ?_))
    (try simp only [Exit.inBlock, Exit.then])
    refine bodyPost_ret (v := .tuple #[.agg (mesC m (.slice A0 a0 c0) (.slice B0 b0 d0) (.slice C0 e0 f0)), .int .i64 0]) (results_row2 rfl _ _ w.heap.size rfl (.int .i64 0) rfl _ (mesC m (.slice A0 a0 c0) (.slice B0 b0 d0) (.slice C0 e0 f0)) _ _ (blk_setRow hk7) Tryd.underlying40 rfl mesInfo) rfl ?_
    rw [HE.out]
    exact ⟨_, _, _, rfl, hL7.turn hFR.out.1 (turn_row _ _ _) (fun k hk => by have := hFR.out.2; omega), below_setRow hw7 (Nat.le_refl _)⟩
theorem parseMs_any (l : List UInt8) (w : World) (hl : l.length ≤ 9223372036854775807) (hT : Tabs w) : Calls Tryd.prog 8 #[.string (str l)] w (parsedM l w) := by
  by_cases h : 65536 < l.length
  · exact parseM_long l w hl h
  · exact parseM_short l w h hT
end Go.Proofs.YtgmejaiifibfoaaDoor
