/-
  The transaction of words, by the code.
-/
import Derived.Test.YtfoabgjcndgflaaDoorParse8
import Derived.Test.YtfoabgjcndgflaaDoorOwnT
import Derived.Test.YtfoabgjcndgflaaDoorCheckT
set_option linter.unusedSimpArgs false
set_option linter.unusedVariables false
namespace Go.Proofs.YtfoabgjcndgflaaDoor
open Go.RowKit Go.Lib

theorem parse_short {l : List UInt8} (h : (cutsL 6 l).length ≠ 7) : parseT l = none := by
  unfold parseT
  cases hc : cuts 6 l with
  | none => rfl
  | some p =>
    obtain ⟨h1, h2⟩ := cuts_some 6 l p.1 p.2 hc
    rw [h1] at h
    exact absurd (by simp [h2]) h
theorem parse_seven {l a0 a1 a2 a3 a4 a5 a6 : List UInt8} (h : cutsL 6 l = [a0, a1, a2, a3, a4, a5, a6]) : parseT l = if a5 = wTo ∧ right (saidT a0 a1 a2 a3 a4 a6) = true then some (saidT a0 a1 a2 a3 a4 a6) else none := by
  unfold parseT
  cases hc : cuts 6 l with
  | none =>
    have := cuts_none 6 l hc
    rw [h] at this
    simp at this
  | some p =>
    obtain ⟨h1, h2⟩ := cuts_some 6 l p.1 p.2 hc
    rw [h] at h1
    have e : [a0, a1, a2, a3, a4, a5, a6] = [a0, a1, a2, a3, a4, a5] ++ [a6] := rfl
    rw [e] at h1
    obtain ⟨e1, e2⟩ := List.append_inj' h1 rfl
    injection e2 with e2
    show formT p.1 p.2 = _
    rw [← e1, ← e2, form_said]
/-- What Parse hands back. -/
def outP (o : Option Txx) : Value := .tuple #[.agg (txC (o.getD zeroX)), .int .i64 (if o.isSome = true then 0 else 80)]
/-- A struct out of its block, and a slot, are handed back. -/
theorem results_row2 {P : Program} {fn : Func} {d k : Tmp} {ty : TypeId} (h : fn.results = #[.cell d ty, .tmp k]) (tmps : Array Value) (w : World) (g : Nat) (hx : tmps.getD d undef = .pointer (some ⟨g, 0, none⟩)) (v : Value) (hv : tmps.getD k undef = v) (t : TypeId) (cs : Array Value) (fr : Nat × Nat) (ds : TypeDesc)
    (hb : w.heap[g]? = some (.cells cs t fr)) (hu : P.underlying ty = some ds) (hd : (match ds with | .struct _ | .array _ _ => true | _ => false) = true) (hi : (P.info? ty).map (·.size) = some cs.size) : (results fn tmps).run P w = .ok (.tuple #[.agg cs, v]) w := by
  have hx' : tmps[d]?.getD undef = .pointer (some ⟨g, 0, none⟩) := by simpa using hx
  have hv' : tmps[k]?.getD undef = v := by simpa using hv
  simp [results, h, hx', hv', asAddr, run_loadVar_row w g t ty cs fr ds hb hu hd hi]
theorem said_wf {a0 a1 a2 a3 a4 a6 : List UInt8} {n : Nat} (h2 : a2.length ≤ n) (h4 : a4.length ≤ n) (h6 : a6.length ≤ n) (hm : inI (numW a4)) (hn : inI (nonceW a1)) : (saidT a0 a1 a2 a3 a4 a6).wf n := by
  have i0 : inI 0 := by unfold inI; omega
  have i1 : inI 1 := by unfold inI; omega
  have i2 : inI 2 := by unfold inI; omega
  unfold saidT
  split
  · exact ⟨i1, h2, h6, Nat.zero_le _, Nat.zero_le _, hm, hn⟩
  · split
    · exact ⟨i2, h2, Nat.zero_le _, h4, h6, i0, hn⟩
    · exact ⟨i0, h2, Nat.zero_le _, Nat.zero_le _, Nat.zero_le _, i0, hn⟩
theorem num_in (l : List UInt8) : inI (numW l) := by
  by_cases h : L1.readE l 1 top62 = 0
  · have := posN_in (read_some h)
    unfold numW inI; omega
  · unfold numW inI; rw [read_none h]; omega
theorem nonce_in (l : List UInt8) : inI (nonceW l) := by
  unfold nonceW
  split
  · exact num_in _
  · unfold inI; omega
theorem seven_of {L : List (List UInt8)} (h : L.length = 7) : ∃ a0 a1 a2 a3 a4 a5 a6, L = [a0, a1, a2, a3, a4, a5, a6] := by
  match L, h with
  | [a0, a1, a2, a3, a4, a5, a6], _ => exact ⟨_, _, _, _, _, _, _, rfl⟩
set_option maxHeartbeats 4000000 in
set_option maxRecDepth 100000 in
theorem parse_any (l : List UInt8) (w : World) (hl : l.length ≤ 1000000) (hT : Tabs w) : Calls Tryd.prog 14 #[.string (str l)] w (gives (outP (parseT l)) w) := by
  have hb0 : Below w.heap.size w (w.alloc (.cells (txC zeroX) 23)) := below_box _ zeroX
  have k0 := box_new w 23 zeroX
  have hle := cutsL_le 6 l
  have hcut := fun W => cut_any l W hl
  have HT := Lib.hid (fun w' (hb : Below w.heap.size w w') => hT.kept hb)
  by_cases h7 : (cutsL 6 l).length = 7
  · obtain ⟨a0, a1, a2, a3, a4, a5, a6, hL⟩ := seven_of h7
    have hP := parse_seven hL
    have hls : ∀ x ∈ [a0, a1, a2, a3, a4, a5, a6], x.length ≤ 1000000 := fun x hx => Nat.le_trans (hle x (by rw [hL]; exact hx)) hl
    have l1 : a1.length ≤ 1000000 := hls a1 (by simp)
    have l4 : a4.length ≤ 1000000 := hls a4 (by simp)
    have hwf : (saidT a0 a1 a2 a3 a4 a6).wf 1000000 := said_wf (hls a2 (by simp)) l4 (hls a6 (by simp)) (num_in _) (nonce_in _)
    rw [hL] at hcut
    have hsaid := fun g c W h => said_any g c a0 a1 a2 a3 a4 a5 a6 W h l1 l4
    obtain ⟨t, ht⟩ : ∃ t, t = saidT a0 a1 a2 a3 a4 a6 := ⟨_, rfl⟩
    rw [← ht] at hP hwf hsaid
    have hchk := fun W hW => check_any t W hwf hW
    have hown := fun W => own_any t W hwf
    have hcut7 : ∀ W, Calls Tryd.prog 32 #[.string (str l)] W fun e w' => ∃ g c, e = .returned (.slice (some ⟨g, 0, none⟩) 7 c) ∧ RowW w' g [a0, a1, a2, a3, a4, a5, a6] ∧ Below W.heap.size W w' := fun W => (hcut W).mono fun e w' h => h
    have HH := Lib.hid (And.intro hcut7 (And.intro hsaid (And.intro hchk (And.intro hown hP))))
    clear hcut hcut7 hsaid hchk hown hP hT hwf l1 l4 hls hL h7 hle hl ht
    by_cases q5 : a5 = wTo
    · have q5' := str_is q5
      unfold wTo at q5'
      have HP := HH.out.2.2.2.2
      have HC := HH.out.2.2.1
      rcases Bool.eq_false_or_eq_true (right t) with hr | hr
      · rw [if_pos ⟨q5, hr⟩] at HP
        rw [hr] at HC
        have HX := Lib.hid (And.intro HP HC)
        clear HP HC q5 hr
        go_enter Tryd.func14, Tryd.ntmps14
        go_wp2_with (first
            | (go_at_call 32; refine (HH.out.1 _).mono ?_; rintro e w1 ⟨g, c, rfl, hrw, hb1⟩; have c5 : w1.cell? ⟨g, 5, none⟩ = some (.string (str a5)) := hrw.2 5 a5 rfl; have kR1 := k0.below hb1 (by simp); replace hb1 := nxt hb0 hb1)
            | (go_at_call 33; refine (HH.out.2.1 _ _ _ hrw).mono ?_; unfold gives; rintro e w2 ⟨rfl, hb2⟩; have kR2 := kR1.below hb2 kR1.lt; replace hb2 := nxt hb1 hb2; have k5 := box_new w2 23 t; have hb3 := hb2.alloc hb2.size (.cells (txC t) 23); have kR3 := kR2.alloc (.cells (txC t) 23))
            | (refine wpList_store_new rfl _ _ _ rfl _ (txC t) rfl rfl _ _ (by kernel_rfl) rfl (txC_ones _) ?_)
            | (refine wpList_row_at rfl _ _ rfl w2.heap.size rfl _ _ _ _ k5 Tryd.underlying23 rfl (by kernel_rfl) ?_)
            | (refine wpList_row_at rfl _ _ rfl w2.heap.size rfl _ _ _ _ k54 Tryd.underlying23 rfl (by kernel_rfl) ?_)
            | (go_at_call 10; refine (HX.out.2 _ (HT.out _ hb3)).mono ?_; unfold gives errI; rintro e w4 ⟨rfl, hb4⟩; have k54 := k5.below hb4 k5.lt; have kR4 := kR3.below hb4 kR3.lt; replace hb4 := nxt hb3 hb4)
            | (go_at_call 34; refine (HH.out.2.2.2.1 _).mono ?_; unfold gives; rintro e w5 ⟨rfl, hb5⟩; have kR5 := kR4.below hb5 kR4.lt; replace hb5 := nxt hb4 hb5)
            | (refine wpList_store_row rfl _ _ _ rfl w.heap.size (txC t) rfl rfl _ _ kR5 (by kernel_rfl) rfl (txC_ones _) ?_))
        (try simp only [Exit.inBlock, Exit.then])
        refine bodyPost_ret (v := .tuple #[.agg (txC t), .int .i64 0]) (results_row2 rfl _ _ w.heap.size rfl (.int .i64 0) rfl _ (txC t) _ _ (blk_setRow kR5) Tryd.underlying23 rfl (by kernel_rfl)) rfl ?_
        exact ⟨by rw [HX.out.1]; rfl, below_setRow hb5 (Nat.le_refl _)⟩
      · rw [if_neg (by rw [hr]; simp)] at HP
        rw [hr] at HC
        have HX := Lib.hid (And.intro HP HC)
        clear HP HC q5 hr
        go_enter Tryd.func14, Tryd.ntmps14
        go_wp2_with (first
            | (go_at_call 32; refine (HH.out.1 _).mono ?_; rintro e w1 ⟨g, c, rfl, hrw, hb1⟩; have c5 : w1.cell? ⟨g, 5, none⟩ = some (.string (str a5)) := hrw.2 5 a5 rfl; have kR1 := k0.below hb1 (by simp); replace hb1 := nxt hb0 hb1)
            | (go_at_call 33; refine (HH.out.2.1 _ _ _ hrw).mono ?_; unfold gives; rintro e w2 ⟨rfl, hb2⟩; have kR2 := kR1.below hb2 kR1.lt; replace hb2 := nxt hb1 hb2; have k5 := box_new w2 23 t; have hb3 := hb2.alloc hb2.size (.cells (txC t) 23); have kR3 := kR2.alloc (.cells (txC t) 23))
            | (refine wpList_store_new rfl _ _ _ rfl _ (txC t) rfl rfl _ _ (by kernel_rfl) rfl (txC_ones _) ?_)
            | (refine wpList_row_at rfl _ _ rfl w2.heap.size rfl _ _ _ _ k5 Tryd.underlying23 rfl (by kernel_rfl) ?_)
            | (go_at_call 10; refine (HX.out.2 _ (HT.out _ hb3)).mono ?_; unfold gives errI; rintro e w4 ⟨rfl, hb4⟩; have k54 := k5.below hb4 k5.lt; have kR4 := kR3.below hb4 kR3.lt; replace hb4 := nxt hb3 hb4)
            | (refine wpList_build rfl _ _ rfl #[] rfl (build_zero _) ?_)
            | (refine wpList_store_row rfl _ _ _ rfl w.heap.size (txC zeroX) rfl rfl _ _ kR4 (by kernel_rfl) rfl (txC_ones _) ?_))
        (try simp only [Exit.inBlock, Exit.then])
        refine bodyPost_ret (v := .tuple #[.agg (txC zeroX), .int .i64 80]) (results_row2 rfl _ _ w.heap.size rfl (.int .i64 80) rfl _ (txC zeroX) _ _ (blk_setRow kR4) Tryd.underlying23 rfl (by kernel_rfl)) rfl ?_
        exact ⟨by rw [HX.out.1]; rfl, below_setRow hb4 (Nat.le_refl _)⟩
    · have q5' := str_not q5
      unfold wTo at q5'
      have HP := HH.out.2.2.2.2
      rw [if_neg (fun h => q5 h.1)] at HP
      have HX := Lib.hid HP
      clear HP q5
      go_enter Tryd.func14, Tryd.ntmps14
      go_wp2_with (first
          | (go_at_call 32; refine (HH.out.1 _).mono ?_; rintro e w1 ⟨g, c, rfl, hrw, hb1⟩; have c5 : w1.cell? ⟨g, 5, none⟩ = some (.string (str a5)) := hrw.2 5 a5 rfl; have kR1 := k0.below hb1 (by simp); replace hb1 := nxt hb0 hb1)
          | (refine wpList_build rfl _ _ rfl #[] rfl (build_zero _) ?_)
          | (refine wpList_store_row rfl _ _ _ rfl w.heap.size (txC zeroX) rfl rfl _ _ kR1 (by kernel_rfl) rfl (txC_ones _) ?_))
      (try simp only [Exit.inBlock, Exit.then])
      refine bodyPost_ret (v := .tuple #[.agg (txC zeroX), .int .i64 80]) (results_row2 rfl _ _ w.heap.size rfl (.int .i64 80) rfl _ (txC zeroX) _ _ (blk_setRow kR1) Tryd.underlying23 rfl (by kernel_rfl)) rfl ?_
      exact ⟨by rw [HX.out]; rfl, below_setRow hb1 (Nat.le_refl _)⟩
  · have HX := Lib.hid (parse_short h7)
    obtain ⟨L, hL⟩ : ∃ L, L = cutsL 6 l := ⟨_, rfl⟩
    rw [← hL] at h7 hcut
    have h7' : ((L.length : Int) == 7) = false := by simp; omega
    have h7'' : ((L.length : Int) != 7) = true := by simp; omega
    have HH := Lib.hid hcut
    clear hL hle hcut h7
    go_enter Tryd.func14, Tryd.ntmps14
    go_wp2_with (first
        | (go_at_call 32; refine (HH.out _).mono ?_; unfold worded; rintro e w1 ⟨g, c, rfl, hrw, hb1⟩; have kR1 := k0.below hb1 (by simp); replace hb1 := nxt hb0 hb1)
        | (refine wpList_build rfl _ _ rfl #[] rfl (build_zero _) ?_)
        | (refine wpList_store_row rfl _ _ _ rfl w.heap.size (txC zeroX) rfl rfl _ _ kR1 (by kernel_rfl) rfl (txC_ones _) ?_))
    (try simp only [Exit.inBlock, Exit.then])
    refine bodyPost_ret (v := .tuple #[.agg (txC zeroX), .int .i64 80]) (results_row2 rfl _ _ w.heap.size rfl (.int .i64 80) rfl _ (txC zeroX) _ _ (blk_setRow kR1) Tryd.underlying23 rfl (by kernel_rfl)) rfl ?_
    exact ⟨by rw [HX.out]; rfl, below_setRow hb1 (Nat.le_refl _)⟩
end Go.Proofs.YtfoabgjcndgflaaDoor
