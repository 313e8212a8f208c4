/-
  Which certificates may be, by the code; which is endorsed; what was signed; without sets.
-/
import Derived.Test.YtkjkkbionlmohaaVal
set_option linter.unusedSimpArgs false
set_option linter.unusedVariables false
namespace Go.Proofs.Ytkjkkbionlmohaa
open Go.RowKit Go.Lib

theorem okW_mk {n lo hi : Int} (h0 : lo ≤ n) (h1 : n ≤ hi) : okW n lo hi = true := decide_eq_true ⟨h0, h1⟩
theorem okW_not {n lo hi : Int} (h : n < lo ∨ hi < n) : okW n lo hi = false := decide_eq_false (by omega)
theorem okW_le {n lo hi : Int} (h : okW n lo hi = true) : lo ≤ n ∧ n ≤ hi := of_decide_eq_true h
theorem within_any (n lo hi : Int) (w : World) : Calls Try.prog 33 #[.int .i64 n, .int .i64 lo, .int .i64 hi] w fun e w' => e = .returned (.bool (okW n lo hi)) ∧ w = w' := by
  by_cases h0 : lo ≤ n
  · by_cases h1 : n ≤ hi
    · have hk := okW_mk h0 h1
      go_enter Try.func33, Try.ntmps33
      go_wp2
      go_ret
      exact ⟨congrArg (fun b => Ending.returned (.bool b)) hk.symm, rfl⟩
    · have hk := okW_not (n := n) (lo := lo) (hi := hi) (by omega)
      go_enter Try.func33, Try.ntmps33
      go_wp2
      go_ret
      exact ⟨rfl, rfl⟩
  · have hk := okW_not (n := n) (lo := lo) (hi := hi) (by omega)
    go_enter Try.func33, Try.ntmps33
    go_wp2
    go_ret
    exact ⟨rfl, rfl⟩
theorem within_is (n lo hi : Int) (b : Bool) (w : World) (h : okW n lo hi = b) : Calls Try.prog 33 #[.int .i64 n, .int .i64 lo, .int .i64 hi] w fun e w' => e = .returned (.bool b) ∧ w = w' := by
  have := within_any n lo hi w; rw [h] at this; exact this
theorem replicas_any (n : Nat) (w : World) (hn : inU n) : Calls Try.prog 34 #[.int .u32 n] w fun e w' => e = .returned (.bool (setV n)) ∧ w = w' := by
  have hc := L4.check_any 3 n w hn
  have hv : L4.checkV 3 n = if n < 1024 then 0 else 40 := rfl
  by_cases h : n < 1024
  · rw [hv, if_pos h] at hc
    have hk : setV n = true := decide_eq_true h
    clear h hv
    go_enter Try.func34, Try.ntmps34
    go_wp2_with (go_at_call 40; refine hc.mono ?_; rintro e w1 ⟨rfl, rfl⟩)
    go_ret
    exact ⟨congrArg (fun b => Ending.returned (.bool b)) hk.symm, rfl⟩
  · rw [hv, if_neg h] at hc
    have hk : setV n = false := decide_eq_false h
    clear h hv
    go_enter Try.func34, Try.ntmps34
    go_wp2_with (go_at_call 40; refine hc.mono ?_; rintro e w1 ⟨rfl, rfl⟩)
    go_ret
    exact ⟨congrArg (fun b => Ending.returned (.bool b)) hk.symm, rfl⟩
theorem replicas_is (n : Nat) (b : Bool) (w : World) (hn : inU n) (h : setV n = b) : Calls Try.prog 34 #[.int .u32 n] w fun e w' => e = .returned (.bool b) ∧ w = w' := by
  have := replicas_any n w hn; rw [h] at this; exact this
/-- The first of five that is false, or none. -/
theorem five (a b c d e : Bool) : a = false ∨ (a = true ∧ b = false) ∨ (a = true ∧ b = true ∧ c = false) ∨ (a = true ∧ b = true ∧ c = true ∧ d = false) ∨ (a = true ∧ b = true ∧ c = true ∧ d = true ∧ e = false) ∨ (a = true ∧ b = true ∧ c = true ∧ d = true ∧ e = true) := by
  cases a <;> cases b <;> cases c <;> cases d <;> cases e <;> simp
theorem four (a b c d : Bool) : a = false ∨ (a = true ∧ b = false) ∨ (a = true ∧ b = true ∧ c = false) ∨ (a = true ∧ b = true ∧ c = true ∧ d = false) ∨ (a = true ∧ b = true ∧ c = true ∧ d = true) := by
  cases a <;> cases b <;> cases c <;> cases d <;> simp
theorem nat_is0 {n : Nat} (h : (!decide (n = 0)) = false) : ((n : Int) == 0) = true ∧ ((n : Int) != 0) = false := by
  have : n = 0 := by simpa using h
  subst this; exact ⟨rfl, rfl⟩
theorem nat_no0 {n : Nat} (h : (!decide (n = 0)) = true) : ((n : Int) == 0) = false ∧ ((n : Int) != 0) = true := by
  have : n ≠ 0 := by simpa using h
  constructor
  · simp; omega
  · simp; omega
set_option maxHeartbeats 1000000 in
set_option maxRecDepth 100000 in
theorem signed_any (c : Crt) (w : World) (h : c.wf) : Calls Try.prog 32 #[.agg (crtC c)] w (gives (.bool (sgV c)) w) := by
  have hu : inU c.sg := h.2.2.2.2.2.2.1
  have hb0 : Below w.heap.size w (w.alloc (.cells (crtC c) 24)) := below_box _ c
  obtain ⟨c0, c1, c2, c3, c4, c5, c6, c7⟩ := box_of (box_new w 24 c)
  have e : sgV c = (okW c.block 1 2147483647 && okW c.view 1 1048576 && okW c.round 1 1073741824 && !decide (c.sg = 0) && setV c.sg) := rfl
  clear h
  rcases five (okW c.block 1 2147483647) (okW c.view 1 1048576) (okW c.round 1 1073741824) (!decide (c.sg = 0)) (setV c.sg) with a | ⟨a, b⟩ | ⟨a, b, d⟩ | ⟨a, b, d, f⟩ | ⟨a, b, d, f, g⟩ | ⟨a, b, d, f, g⟩
  case' inr.inr.inr.inl => obtain ⟨f1, f2⟩ := nat_is0 f
  case' inr.inr.inr.inr.inl => obtain ⟨f1, f2⟩ := nat_no0 f
  case' inr.inr.inr.inr.inr => obtain ⟨f1, f2⟩ := nat_no0 f
  all_goals
    have HE : Hid (sgV c = _) := Lib.hid e
    clear e
    go_enter Try.func32, Try.ntmps32
    go_wp2_with (first
      | (go_at_call 33; first
          | ((with_reducible refine (within_is _ _ _ _ _ a).mono ?_); rintro e w1 ⟨rfl, rfl⟩)
          | ((with_reducible refine (within_is _ _ _ _ _ b).mono ?_); rintro e w1 ⟨rfl, rfl⟩)
          | ((with_reducible refine (within_is _ _ _ _ _ d).mono ?_); rintro e w1 ⟨rfl, rfl⟩))
      | (go_at_call 34; (with_reducible refine (replicas_is _ _ _ hu g).mono ?_); rintro e w1 ⟨rfl, rfl⟩))
    go_ret
    refine ⟨?_, hb0⟩
    rw [HE.out]
    simp [*]
/-- Its height, its author and its coin are zero? -/
def restB (c : Crt) : Bool := decide (c.height = 0) && decide (c.author = 0) && decide (c.co = 0)
set_option maxHeartbeats 1000000 in
set_option maxRecDepth 100000 in
theorem may_any (c : Crt) (w : World) (h : c.wf) : Calls Try.prog 22 #[.agg (crtC c)] w (gives (.bool (mayV c)) w) := by
  have hu : inU c.co := h.2.2.2.2.2.2.2
  have hb0 : Below w.heap.size w (w.alloc (.cells (crtC c) 24)) := below_box _ c
  have k0 := box_new w 24 c
  have B0 := Lib.hid (fun w1 => @box_at w w1 24 c)
  have hq := fun W => eqlC h zeroC_wf W
  have hs := fun W => signed_any c W h
  obtain ⟨c0, c1, c2, c3, c4, c5, c6, c7⟩ := box_of (box_new w 24 c)
  have HH := Lib.hid (And.intro hq hs)
  clear hq hs h
  by_cases hk0 : c.kind = 0
  · have e : mayV c = decide (c = zeroC) := by unfold mayV; rw [if_pos hk0]
    rw [hk0] at c0
    have HE := Lib.hid e
    clear e hk0
    go_enter Try.func22, Try.ntmps22
    go_wp2_with (first
      | (refine wpList_row_at rfl _ _ rfl w.heap.size rfl _ _ _ _ k0 Try.underlying24 rfl crtInfo ?_)
      | (refine wpList_build rfl _ _ rfl #[] rfl (build_zero _) ?_)
      | (refine wpList_binop rfl _ _ _ _ _ rfl (crtC c) (crtC zeroC) rfl rfl (by kernel_rfl) (HH.out.1 _) ?_))
    go_ret
    exact ⟨congrArg (fun b => Ending.returned (.bool b)) HE.out.symm, hb0⟩
  have hk0' : (c.kind == 0) = false := by simpa using hk0
  by_cases hk1 : c.kind = 1
  · have e : mayV c = (sgV c && decide (c.height = 0) && decide (c.author = 0) && decide (c.co = 0)) := by unfold mayV; rw [if_neg hk0, if_pos hk1]
    rw [hk1] at c0
    have hs := HH.out.2
    rcases four (sgV c) (decide (c.height = 0)) (decide (c.author = 0)) (decide (c.co = 0)) with a | ⟨a, b⟩ | ⟨a, b, d⟩ | ⟨a, b, d, f⟩ | ⟨a, b, d, f⟩
    case' inr.inl => have b' : (c.height == 0) = false := by simpa using b
    case' inr.inr.inl => have b' : c.height = 0 := by simpa using b
    case' inr.inr.inl => have d' : (c.author == 0) = false := by simpa using d
    case' inr.inr.inr.inl => have b' : c.height = 0 := by simpa using b
    case' inr.inr.inr.inl => have d' : c.author = 0 := by simpa using d
    case' inr.inr.inr.inl => have f' : ((c.co : Int) == 0) = false := by simpa using f
    case' inr.inr.inr.inr => have b' : c.height = 0 := by simpa using b
    case' inr.inr.inr.inr => have d' : c.author = 0 := by simpa using d
    case' inr.inr.inr.inr => have f' : ((c.co : Int) == 0) = true := by simpa using f
    all_goals
      have HE : Hid (mayV c = _) := Lib.hid e
      rw [a] at hs
      have HS := Lib.hid hs
      clear e hk0 hk0' hk1 hs HH
      go_enter Try.func22, Try.ntmps22
      go_wp2_with (first
        | (refine wpList_row_at rfl _ _ rfl w.heap.size rfl _ _ _ _ k0 Try.underlying24 rfl crtInfo ?_)
        | (go_at_call 32; refine (HS.out _).mono ?_; unfold gives; rintro e w1 ⟨rfl, hb1⟩; obtain ⟨d0, d1, d2, d3, d4, d5, d6, d7⟩ := B0.out _ hb1; replace hb1 := nxt hb0 hb1))
      go_ret
      refine ⟨?_, hb1⟩
      rw [HE.out]
      simp [*]
  have hk1' : (c.kind == 1) = false := by simpa using hk1
  by_cases hk2 : c.kind = 2
  · have e : mayV c = (sgV c && okW c.height 1 3 && okW c.author 0 9 && setV c.co) := by unfold mayV; rw [if_neg hk0, if_neg hk1, if_pos hk2]
    rw [hk2] at c0
    have hs := HH.out.2
    rcases four (sgV c) (okW c.height 1 3) (okW c.author 0 9) (setV c.co) with a | ⟨a, b⟩ | ⟨a, b, d⟩ | ⟨a, b, d, f⟩ | ⟨a, b, d, f⟩
    all_goals
      have HE : Hid (mayV c = _) := Lib.hid e
      rw [a] at hs
      have HS := Lib.hid hs
      clear e hk0 hk0' hk1 hk1' hk2 hs HH
      go_enter Try.func22, Try.ntmps22
      go_wp2_with (first
        | (refine wpList_row_at rfl _ _ rfl w.heap.size rfl _ _ _ _ k0 Try.underlying24 rfl crtInfo ?_)
        | (go_at_call 32; refine (HS.out _).mono ?_; unfold gives; rintro e w1 ⟨rfl, hb1⟩; obtain ⟨d0, d1, d2, d3, d4, d5, d6, d7⟩ := B0.out _ hb1; replace hb1 := nxt hb0 hb1)
        | (go_at_call 33; first
            | ((with_reducible refine (within_is _ _ _ _ _ b).mono ?_); rintro e w1 ⟨rfl, rfl⟩)
            | ((with_reducible refine (within_is _ _ _ _ _ d).mono ?_); rintro e w1 ⟨rfl, rfl⟩))
        | (go_at_call 34; (with_reducible refine (replicas_is _ _ _ hu f).mono ?_); rintro e w1 ⟨rfl, rfl⟩))
      go_ret
      refine ⟨?_, hb1⟩
      rw [HE.out]
      simp [*]
  have hk2' : (c.kind == 2) = false := by simpa using hk2
  have e : mayV c = false := by unfold mayV; rw [if_neg hk0, if_neg hk1, if_neg hk2]
  rw [e]
  clear e hk0 hk1 hk2
  go_enter Try.func22, Try.ntmps22
  go_wp2
  go_ret
  exact ⟨rfl, hb0⟩
theorem check_any (c : Crt) (w : World) (h : c.wf) : Calls Try.prog 13 #[.agg (crtC c)] w (gives (.int .i64 (errI (mayV c) 110)) w) := by
  have hb0 : Below w.heap.size w (w.alloc (.cells (crtC c) 24)) := below_box _ c
  have k0 := box_new w 24 c
  have hm := fun W => may_any c W h
  clear h
  rcases Bool.eq_false_or_eq_true (mayV c) with a | a
  all_goals
    rw [a] at hm ⊢
    have HM := Lib.hid hm
    clear hm a
    go_enter Try.func13, Try.ntmps13
    go_wp2_with (first
      | (refine wpList_row_at rfl _ _ rfl w.heap.size rfl _ _ _ _ k0 Try.underlying24 rfl crtInfo ?_)
      | (go_at_call 22; refine (HM.out _).mono ?_; unfold gives; rintro e w1 ⟨rfl, hb1⟩; replace hb1 := nxt hb0 hb1))
    go_ret
    exact ⟨rfl, hb1⟩
theorem check_is (c : Crt) (b : Bool) (w : World) (h : c.wf) (hb : mayV c = b) : Calls Try.prog 13 #[.agg (crtC c)] w (gives (.int .i64 (errI b 110)) w) := by
  have := check_any c w h; rw [hb] at this; exact this
/-- Is it endorsed? -/
def endV (c : Crt) : Bool := decide (c.kind = 2) && !decide (c.co = 0)
theorem endorsed_any (c : Crt) (w : World) : Calls Try.prog 11 #[.agg (crtC c)] w (gives (.bool (endV c)) w) := by
  have hb0 : Below w.heap.size w (w.alloc (.cells (crtC c) 24)) := below_box _ c
  obtain ⟨c0, c1, c2, c3, c4, c5, c6, c7⟩ := box_of (box_new w 24 c)
  by_cases hk : c.kind = 2
  · have e : endV c = !decide (c.co = 0) := by unfold endV; rw [hk]; rfl
    rw [hk] at c0
    clear hk
    rcases Bool.eq_false_or_eq_true (!decide (c.co = 0)) with a | a
    case' inl => obtain ⟨f1, f2⟩ := nat_no0 a
    case' inr => obtain ⟨f1, f2⟩ := nat_is0 a
    all_goals
      rw [a] at e
      rw [e]
      clear a e
      go_enter Try.func11, Try.ntmps11
      go_wp2
      go_ret
      refine ⟨?_, hb0⟩
      first | rfl | simp [f1, f2]
  · have e : endV c = false := by unfold endV; rw [decide_eq_false hk]; rfl
    have hk' : (c.kind == 2) = false := by simpa using hk
    rw [e]
    clear e hk
    go_enter Try.func11, Try.ntmps11
    go_wp2
    go_ret
    exact ⟨rfl, hb0⟩
theorem plain_any (c : Crt) (w : World) : Calls Try.prog 10 #[.agg (crtC c)] w (gives (.agg (crtC (plainV c))) w) := by
  have hb0 : Below w.heap.size w (w.alloc (.cells (crtC c) 24)) := below_box _ c
  have k0 := box_new w 24 c
  have e1 : (w.alloc (.cells (crtC c) 24)).heap.size = w.heap.size + 1 := by simp
  have f6 := (k0.alloc (.cells (crtC zeroC) 24)).frozen 6
  go_enter Try.func10, Try.ntmps10
  go_upto_region 2 with fail
  refine name_world (fun w1 hw1 => ?_)
  have hw2 : w1 = (w.alloc (.cells (crtC (plainV c)) 24)).alloc (.cells (crtC zeroC) 24) := hw1
  have hk : L3.Blk w1 w.heap.size 24 (crtC (plainV c)) := by rw [hw2]; exact (box_new w _ (plainV c)).alloc _
  have hz : L3.Blk w1 (w.heap.size + 1) 24 (crtC zeroC) := by
    rw [hw2]
    have := L3.Blk.new (w.alloc (.cells (crtC (plainV c)) 24)) 24 (crtC zeroC)
    simpa using this
  have hb : Below w.heap.size w w1 := by
    rw [hw2]
    have := below_box (w := w) 24 (plainV c)
    exact this.alloc this.size _
  clear hw2
  clear hw1
  go_wp2_with (first
    | (refine wpList_row_at rfl _ _ rfl w.heap.size rfl _ _ _ _ hk Try.underlying24 rfl crtInfo ?_)
    | (refine wpList_store_row rfl _ _ _ rfl (w.heap.size + 1) (crtC (plainV c)) rfl rfl _ _ hz crtInfo rfl (crtC_ones _) ?_))
  (try simp only [Exit.inBlock, Exit.then])
  refine bodyPost_ret (v := .agg (crtC (plainV c))) (results_row rfl _ _ (w.heap.size + 1) rfl _ _ _ _ (blk_setRow hz) Try.underlying24 rfl crtInfo) rfl ?_
  exact ⟨rfl, below_setRow hb (by omega)⟩
end Go.Proofs.Ytkjkkbionlmohaa
