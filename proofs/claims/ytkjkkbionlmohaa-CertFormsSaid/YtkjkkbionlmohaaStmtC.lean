/-
  What was signed, by the code and by the document's answer: the same; which may be, by the document's answer.
-/
import Derived.Test.YtkjkkbionlmohaaCheckC
set_option linter.unusedSimpArgs false
set_option linter.unusedVariables false
namespace Go.Proofs.Ytkjkkbionlmohaa
open Go.RowKit Go.Lib

theorem build_vote (b v r : Int) (w : World) : (Instr.build 31 #[(0, .int .i64 2), (1, .int .i64 b), (2, .int .i64 v), (3, .int .i64 r)]).run Try.prog w = .ok (.agg (stmC ⟨2, b, v, r, 0, 0, 0, 0, 0, 0⟩)) w := run_build w _ _ _ (by kernel_rfl)
theorem build_fall (b v r h a : Int) (w : World) : (Instr.build 31 #[(0, .int .i64 4), (1, .int .i64 b), (2, .int .i64 v), (3, .int .i64 r), (4, .int .i64 h), (5, .int .i64 a)]).run Try.prog w = .ok (.agg (stmC ⟨4, b, v, r, h, a, 0, 0, 0, 0⟩)) w := run_build w _ _ _ (by kernel_rfl)
theorem build_stm0 (w : World) : (Instr.build 31 #[]).run Try.prog w = .ok (.agg (stmC zeroM)) w := run_build w _ _ _ (by kernel_rfl)
theorem build_refs (b v r : Int) (w : World) : (Instr.build 31 #[(1, .int .i64 b), (2, .int .i64 v), (3, .int .i64 r)]).run Try.prog w = .ok (.agg (stmC ⟨0, b, v, r, 0, 0, 0, 0, 0, 0⟩)) w := run_build w _ _ _ (by kernel_rfl)
/-- The argument's box and the answer's. -/
def TwoAt (w : World) (c : Crt) (s : Stm) (W : World) : Prop :=
  L3.Blk W w.heap.size 24 (crtC c) ∧ L3.Blk W (w.heap.size + 1) 31 (stmC s) ∧ Below w.heap.size w W
theorem two_mk (w : World) (c : Crt) : TwoAt w c zeroM ((w.alloc (.cells (crtC c) 24)).alloc (.cells (stmC zeroM) 31)) := by
  have hb := below_box (w := w) 24 c
  refine ⟨(box_new w _ c).alloc _, ?_, hb.alloc hb.size _⟩
  have := L3.Blk.new (w.alloc (.cells (crtC c) 24)) 31 (stmC zeroM)
  simpa using this
set_option maxHeartbeats 1000000 in
set_option maxRecDepth 100000 in
theorem stmt_any (c : Crt) (w : World) : Calls Try.prog 8 #[.agg (crtC c)] w (gives (.agg (stmC (stmV c))) w) := by
  have h2 := Lib.hid (two_mk w c)
  by_cases h1 : c.kind = 1
  · have e : stmV c = ⟨2, c.block, c.view, c.round, 0, 0, 0, 0, 0, 0⟩ := by unfold stmV; rw [if_pos h1]
    rw [e]
    go_enter Try.func8, Try.ntmps8
    go_upto_region 1 with fail
    refine name_world (fun w1 hw1 => ?_)
    have hA : TwoAt w c zeroM w1 := by rw [hw1]; exact h2.out
    clear hw1 h2 e
    obtain ⟨k0, z0, hb⟩ := hA
    obtain ⟨c0, c1, c2, c3, c4, c5, c6, c7⟩ := box_of k0
    rw [h1] at c0
    clear h1
    go_wp2_with (first
      | (refine wpList_build rfl _ _ rfl #[(0, .int .i64 2), (1, .int .i64 c.block), (2, .int .i64 c.view), (3, .int .i64 c.round)] rfl (build_vote _ _ _ _) ?_)
      | (refine wpList_store_row rfl _ _ _ rfl (w.heap.size + 1) (stmC ⟨2, c.block, c.view, c.round, 0, 0, 0, 0, 0, 0⟩) rfl rfl _ _ z0 stmInfo rfl (stmC_ones _) ?_))
    (try simp only [Exit.inBlock, Exit.then])
    refine bodyPost_ret (v := .agg (stmC ⟨2, c.block, c.view, c.round, 0, 0, 0, 0, 0, 0⟩)) (results_row rfl _ _ (w.heap.size + 1) rfl _ _ _ _ (blk_setRow z0) Try.underlying31 rfl stmInfo) rfl ?_
    exact ⟨rfl, below_setRow hb (by omega)⟩
  have h1' : (c.kind == 1) = false := by simpa using h1
  by_cases hk2 : c.kind = 2
  · have e : stmV c = ⟨4, c.block, c.view, c.round, c.height, c.author, 0, 0, 0, 0⟩ := by unfold stmV; rw [if_neg h1, if_pos hk2]
    rw [e]
    clear h1 h1'
    go_enter Try.func8, Try.ntmps8
    go_upto_region 1 with fail
    refine name_world (fun w1 hw1 => ?_)
    have hA : TwoAt w c zeroM w1 := by rw [hw1]; exact h2.out
    clear hw1 h2 e
    obtain ⟨k0, z0, hb⟩ := hA
    obtain ⟨c0, c1, c2, c3, c4, c5, c6, c7⟩ := box_of k0
    rw [hk2] at c0
    clear hk2
    go_wp2_with (first
      | (refine wpList_build rfl _ _ rfl #[(0, .int .i64 4), (1, .int .i64 c.block), (2, .int .i64 c.view), (3, .int .i64 c.round), (4, .int .i64 c.height), (5, .int .i64 c.author)] rfl (build_fall _ _ _ _ _ _) ?_)
      | (refine wpList_store_row rfl _ _ _ rfl (w.heap.size + 1) (stmC ⟨4, c.block, c.view, c.round, c.height, c.author, 0, 0, 0, 0⟩) rfl rfl _ _ z0 stmInfo rfl (stmC_ones _) ?_))
    (try simp only [Exit.inBlock, Exit.then])
    refine bodyPost_ret (v := .agg (stmC ⟨4, c.block, c.view, c.round, c.height, c.author, 0, 0, 0, 0⟩)) (results_row rfl _ _ (w.heap.size + 1) rfl _ _ _ _ (blk_setRow z0) Try.underlying31 rfl stmInfo) rfl ?_
    exact ⟨rfl, below_setRow hb (by omega)⟩
  have h2' : (c.kind == 2) = false := by simpa using hk2
  have e : stmV c = zeroM := by unfold stmV; rw [if_neg h1, if_neg hk2]
  rw [e]
  clear h1 hk2
  go_enter Try.func8, Try.ntmps8
  go_upto_region 1 with fail
  refine name_world (fun w1 hw1 => ?_)
  have hA : TwoAt w c zeroM w1 := by rw [hw1]; exact h2.out
  clear hw1 h2 e
  obtain ⟨k0, z0, hb⟩ := hA
  obtain ⟨c0, c1, c2, c3, c4, c5, c6, c7⟩ := box_of k0
  go_wp2_with (first
    | (refine wpList_build rfl _ _ rfl #[] rfl (build_stm0 _) ?_)
    | (refine wpList_store_row rfl _ _ _ rfl (w.heap.size + 1) (stmC zeroM) rfl rfl _ _ z0 stmInfo rfl (stmC_ones _) ?_))
  (try simp only [Exit.inBlock, Exit.then])
  refine bodyPost_ret (v := .agg (stmC zeroM)) (results_row rfl _ _ (w.heap.size + 1) rfl _ _ _ _ (blk_setRow z0) Try.underlying31 rfl stmInfo) rfl ?_
  exact ⟨rfl, below_setRow hb (by omega)⟩
theorem in_any (n lo hi : Int) (w : World) : Calls Try.prog 21 #[.int .i64 n, .int .i64 lo, .int .i64 hi] w fun e w' => e = .returned (.bool (okW n lo hi)) ∧ w = w' := by
  by_cases h0 : lo ≤ n
  · by_cases h1 : n ≤ hi
    · have hk := okW_mk h0 h1
      go_enter Try.func21, Try.ntmps21
      go_wp2
      go_ret
      exact ⟨congrArg (fun b => Ending.returned (.bool b)) hk.symm, rfl⟩
    · have hk := okW_not (n := n) (lo := lo) (hi := hi) (by omega)
      go_enter Try.func21, Try.ntmps21
      go_wp2
      go_ret
      exact ⟨rfl, rfl⟩
  · have hk := okW_not (n := n) (lo := lo) (hi := hi) (by omega)
    go_enter Try.func21, Try.ntmps21
    go_wp2
    go_ret
    exact ⟨rfl, rfl⟩
theorem in_is (n lo hi : Int) (b : Bool) (w : World) (h : okW n lo hi = b) : Calls Try.prog 21 #[.int .i64 n, .int .i64 lo, .int .i64 hi] w fun e w' => e = .returned (.bool b) ∧ w = w' := by
  have := in_any n lo hi w; rw [h] at this; exact this
/-- What the document asks of every one but the genesis. -/
def sixV (c : Crt) : Bool := okW c.block 1 2147483647 && okW c.view 1 1048576 && okW c.round 1 1073741824 && !decide (c.sg = 0) && setV c.sg && setV c.co
def refV (c : Crt) : Bool :=
  if c.kind = 0 then decide (c = zeroC)
  else if sixV c = false then false
  else if c.kind = 1 then decide (c.height = 0) && decide (c.author = 0) && decide (c.co = 0)
  else decide (c.kind = 2) && okW c.height 1 3 && okW c.author 0 9
theorem refV_eq (c : Crt) : refV c = mayV c := by
  unfold refV mayV
  by_cases h0 : c.kind = 0
  · rw [if_pos h0, if_pos h0]
  rw [if_neg h0, if_neg h0]
  by_cases h1 : c.kind = 1
  · rw [if_pos h1, if_pos h1]
    have e : sixV c = (sgV c && setV c.co) := rfl
    rw [e]
    by_cases hc : c.co = 0
    · have : setV c.co = true := by rw [hc]; rfl
      rw [this, Bool.and_true]
      cases sgV c <;> simp
    · have : decide (c.co = 0) = false := decide_eq_false hc
      rw [this]
      simp
  rw [if_neg h1, if_neg h1]
  by_cases h2 : c.kind = 2
  · rw [if_pos h2]
    have e : sixV c = (sgV c && setV c.co) := rfl
    rw [e, decide_eq_true h2]
    cases sgV c <;> cases setV c.co <;> simp
  · rw [if_neg h2, decide_eq_false h2]
    simp
/-- The first of six that is false, or none. -/
theorem six (a b c d e f : Bool) : a = false ∨ (a = true ∧ b = false) ∨ (a = true ∧ b = true ∧ c = false) ∨ (a = true ∧ b = true ∧ c = true ∧ d = false) ∨ (a = true ∧ b = true ∧ c = true ∧ d = true ∧ e = false) ∨ (a = true ∧ b = true ∧ c = true ∧ d = true ∧ e = true ∧ f = false) ∨ (a = true ∧ b = true ∧ c = true ∧ d = true ∧ e = true ∧ f = true) := by
  cases a <;> cases b <;> cases c <;> cases d <;> cases e <;> cases f <;> simp
theorem lt1_no {n : Nat} (h : (!decide (n = 0)) = true) : ¬ ((n : Int) < 1) := by
  have : n ≠ 0 := by simpa using h
  omega
theorem set_le {n : Nat} (h : setV n = true) : ¬ ((1023 : Int) < (n : Int)) := by
  have : n < 1024 := of_decide_eq_true h
  omega
theorem set_gt {n : Nat} (h : setV n = false) : (1023 : Int) < (n : Int) := by
  have : ¬ n < 1024 := of_decide_eq_false h
  omega
set_option maxHeartbeats 2000000 in
set_option maxRecDepth 100000 in
theorem refcheck_ref (c : Crt) (w : World) (h : c.wf) : Calls Try.prog 12 #[.agg (crtC c)] w (gives (.bool (refV c)) w) := by
  have hb0 : Below w.heap.size w (w.alloc (.cells (crtC c) 24)) := below_box _ c
  have k0 := box_new w 24 c
  have hq := fun W => eqlC h zeroC_wf W
  obtain ⟨c0, c1, c2, c3, c4, c5, c6, c7⟩ := box_of k0
  have HQ := Lib.hid hq
  clear hq h
  by_cases hk0 : c.kind = 0
  · have e : refV c = decide (c = zeroC) := by unfold refV; rw [if_pos hk0]
    rw [hk0] at c0
    have HE := Lib.hid e
    clear e hk0
    go_enter Try.func12, Try.ntmps12
    go_wp2_with (first
      | (refine wpList_row_at rfl _ _ rfl w.heap.size rfl _ _ _ _ k0 Try.underlying24 rfl crtInfo ?_)
      | (refine wpList_build rfl _ _ rfl #[] rfl (build_zero _) ?_)
      | (refine wpList_binop rfl _ _ _ _ _ rfl (crtC c) (crtC zeroC) rfl rfl (by kernel_rfl) (HQ.out _) ?_))
    go_ret
    exact ⟨congrArg (fun b => Ending.returned (.bool b)) HE.out.symm, hb0⟩
  have hk0' : (c.kind == 0) = false := by simpa using hk0
  have e6 : sixV c = (okW c.block 1 2147483647 && okW c.view 1 1048576 && okW c.round 1 1073741824 && !decide (c.sg = 0) && setV c.sg && setV c.co) := rfl
  by_cases h6 : sixV c = false
  · have e : refV c = false := by unfold refV; rw [if_neg hk0, if_pos h6]
    rw [e]
    rw [h6] at e6
    rcases six (okW c.block 1 2147483647) (okW c.view 1 1048576) (okW c.round 1 1073741824) (!decide (c.sg = 0)) (setV c.sg) (setV c.co) with a | ⟨a, b⟩ | ⟨a, b, d⟩ | ⟨a, b, d, f⟩ | ⟨a, b, d, f, g⟩ | ⟨a, b, d, f, g, i⟩ | ⟨a, b, d, f, g, i⟩
    case' inr.inr.inr.inl => have f1 : c.sg = 0 := by simpa using f
    case' inr.inr.inr.inl => rw [f1] at c6
    case' inr.inr.inr.inr.inl => have f1 := lt1_no f
    case' inr.inr.inr.inr.inl => have g1 := set_gt g
    case' inr.inr.inr.inr.inr.inl => have f1 := lt1_no f
    case' inr.inr.inr.inr.inr.inl => have g1 := set_le g
    case' inr.inr.inr.inr.inr.inl => have i1 := set_gt i
    case' inr.inr.inr.inr.inr.inr => rw [a, b, d, f, g, i] at e6
    case' inr.inr.inr.inr.inr.inr => cases e6
    all_goals
      clear e e6 h6 hk0
      go_enter Try.func12, Try.ntmps12
      go_wp2_with (first
        | (go_at_call 21; first
            | ((with_reducible refine (in_is _ _ _ _ _ a).mono ?_); rintro e w1 ⟨rfl, rfl⟩)
            | ((with_reducible refine (in_is _ _ _ _ _ b).mono ?_); rintro e w1 ⟨rfl, rfl⟩)
            | ((with_reducible refine (in_is _ _ _ _ _ d).mono ?_); rintro e w1 ⟨rfl, rfl⟩)))
      go_ret
      exact ⟨rfl, hb0⟩
  have h6t : sixV c = true := by simpa using h6
  rw [e6] at h6t
  simp only [Bool.and_eq_true] at h6t
  obtain ⟨⟨⟨⟨⟨a, b⟩, d⟩, f⟩, g⟩, i⟩ := h6t
  have f1 := lt1_no f
  have g1 := set_le g
  have i1 := set_le i
  by_cases hk1 : c.kind = 1
  · have e : refV c = (decide (c.height = 0) && decide (c.author = 0) && decide (c.co = 0)) := by unfold refV; rw [if_neg hk0, if_neg h6, if_pos hk1]
    rw [hk1] at c0
    clear h6 e6 hk0 hk0' hk1 f g i
    rcases four (decide (c.height = 0)) (decide (c.author = 0)) (decide (c.co = 0)) true with j | ⟨j, k⟩ | ⟨j, k, l⟩ | ⟨j, k, l, m⟩ | ⟨j, k, l, m⟩
    case' inr.inr.inr.inl => cases m
    case' inl => have j' : (c.height == 0) = false := by simpa using j
    case' inr.inl => have j' : c.height = 0 := by simpa using j
    case' inr.inl => have k' : (c.author == 0) = false := by simpa using k
    case' inr.inr.inl => have j' : c.height = 0 := by simpa using j
    case' inr.inr.inl => have k' : c.author = 0 := by simpa using k
    case' inr.inr.inl => have l' : ((c.co : Int) == 0) = false := by simpa using l
    case' inr.inr.inr.inr => have j' : c.height = 0 := by simpa using j
    case' inr.inr.inr.inr => have k' : c.author = 0 := by simpa using k
    case' inr.inr.inr.inr => have l' : ((c.co : Int) == 0) = true := by simpa using l
    all_goals
      have HE : Hid (refV c = _) := Lib.hid e
      clear e
      go_enter Try.func12, Try.ntmps12
      go_wp2_with (first
        | (go_at_call 21; first
            | ((with_reducible refine (in_is _ _ _ _ _ a).mono ?_); rintro e w1 ⟨rfl, rfl⟩)
            | ((with_reducible refine (in_is _ _ _ _ _ b).mono ?_); rintro e w1 ⟨rfl, rfl⟩)
            | ((with_reducible refine (in_is _ _ _ _ _ d).mono ?_); rintro e w1 ⟨rfl, rfl⟩)))
      go_ret
      refine ⟨?_, hb0⟩
      rw [HE.out]
      simp [*]
  have hk1' : (c.kind == 1) = false := by simpa using hk1
  by_cases hk2 : c.kind = 2
  · have e : refV c = (okW c.height 1 3 && okW c.author 0 9) := by unfold refV; rw [if_neg hk0, if_neg h6, if_neg hk1, decide_eq_true hk2, Bool.true_and]
    rw [hk2] at c0
    clear h6 e6 hk0 hk0' hk1 hk1' hk2 f g i
    rcases four (okW c.height 1 3) (okW c.author 0 9) true true with j | ⟨j, k⟩ | ⟨j, k, l⟩ | ⟨j, k, l, m⟩ | ⟨j, k, l, m⟩
    case' inr.inr.inl => cases l
    case' inr.inr.inr.inl => cases m
    all_goals
      have HE : Hid (refV c = _) := Lib.hid e
      clear e
      go_enter Try.func12, Try.ntmps12
      go_wp2_with (first
        | (go_at_call 21; first
            | ((with_reducible refine (in_is _ _ _ _ _ a).mono ?_); rintro e w1 ⟨rfl, rfl⟩)
            | ((with_reducible refine (in_is _ _ _ _ _ b).mono ?_); rintro e w1 ⟨rfl, rfl⟩)
            | ((with_reducible refine (in_is _ _ _ _ _ d).mono ?_); rintro e w1 ⟨rfl, rfl⟩)
            | ((with_reducible refine (in_is _ _ _ _ _ j).mono ?_); rintro e w1 ⟨rfl, rfl⟩)
            | ((with_reducible refine (in_is _ _ _ _ _ k).mono ?_); rintro e w1 ⟨rfl, rfl⟩)))
      go_ret
      refine ⟨?_, hb0⟩
      rw [HE.out]
      simp [*]
  have hk2' : (c.kind == 2) = false := by simpa using hk2
  have e : refV c = false := by unfold refV; rw [if_neg hk0, if_neg h6, if_neg hk1, decide_eq_false hk2]; rfl
  rw [e]
  clear e e6 h6 hk0 hk1 hk2 f g i
  go_enter Try.func12, Try.ntmps12
  go_wp2_with (first
    | (go_at_call 21; first
        | ((with_reducible refine (in_is _ _ _ _ _ a).mono ?_); rintro e w1 ⟨rfl, rfl⟩)
        | ((with_reducible refine (in_is _ _ _ _ _ b).mono ?_); rintro e w1 ⟨rfl, rfl⟩)
        | ((with_reducible refine (in_is _ _ _ _ _ d).mono ?_); rintro e w1 ⟨rfl, rfl⟩)))
  go_ret
  exact ⟨rfl, hb0⟩
theorem refcheck_any (c : Crt) (w : World) (h : c.wf) : Calls Try.prog 12 #[.agg (crtC c)] w (gives (.bool (mayV c)) w) := by
  rw [← refV_eq]; exact refcheck_ref c w h
end Go.Proofs.Ytkjkkbionlmohaa
