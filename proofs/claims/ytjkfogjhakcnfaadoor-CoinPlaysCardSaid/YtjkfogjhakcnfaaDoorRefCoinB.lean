/-
  The document's coin: a choice, and whom it elects.
-/
import Derived.Test.YtjkfogjhakcnfaaDoorRefCoin
set_option linter.unusedSimpArgs false
set_option linter.unusedVariables false
namespace Go.Proofs.YtjkfogjhakcnfaaDoor
open Go.RowKit Go.Maps Go.Lib

set_option maxHeartbeats 1000000 in
set_option maxRecDepth 100000 in
theorem refwho_any (S : Nat → Prop) (r : Nat) (f : Int) (G : List (Int × Int)) (N : List Int) (u : Int) (w : World) (h : Rc w S r f G N) (hf : inI f) (hl : G.length ≤ 1000000000) :
    Calls Tryd.prog 33 #[.pointer (some ⟨r, 0, none⟩), .int .i64 u] w fun e w' => e = .returned (.int .i64 (whoV f G u)) ∧ w = w' := by
  have hch := chosen_any S r f G N u w h hl
  have hld := fun w => refleader_any f u w hf.1 hf.2
  obtain ⟨v1, v2, hb, hr1, hr2, h1, h2, h3⟩ := h
  have c0 := hb.cell 0
  unfold whoV
  obtain ⟨q, hq⟩ : ∃ q, q = chosenV G u := ⟨_, rfl⟩
  obtain ⟨l, hl⟩ : ∃ l, l = leadV f u := ⟨_, rfl⟩
  rw [← hq] at hch ⊢
  simp only [← hl] at hld ⊢
  have HH := Lib.hid (And.intro hch hld)
  clear hb hr1 hr2 h2 h3 hch hld hq hl
  by_cases hlt : q < 0
  · rw [if_pos hlt]
    have hlt' : decide (q < 0) = true := by simpa using hlt
    go_enter Tryd.func33, Tryd.ntmps33
    go_wp2_with (first
      | (go_at_call 29; refine HH.out.1.mono ?_; rintro e w1 ⟨rfl, rfl⟩)
      | (go_at_call 44; refine (HH.out.2 _).mono ?_; rintro e w1 ⟨rfl, rfl⟩))
    go_ret
    exact ⟨rfl, rfl⟩
  · rw [if_neg hlt]
    have hlt' : decide (q < 0) = false := by simpa using hlt
    go_enter Tryd.func33, Tryd.ntmps33
    go_wp2_with (go_at_call 29; refine HH.out.1.mono ?_; rintro e w1 ⟨rfl, rfl⟩)
    go_ret
    exact ⟨rfl, rfl⟩
theorem build_choice (u : Int) (w : World) : (Instr.build 50 #[(2, .int .i64 u)]).run Tryd.prog w = .ok (.agg (stmC ⟨0, 0, u, 0, 0, 0, 0, 0, 0, 0⟩)) w := run_build w _ _ _ (by kernel_rfl)
theorem rchoose_view (r : Nat) (u k : Int) (w : World) (hu : mayV u = false) : Calls Tryd.prog 12 #[.pointer (some ⟨r, 0, none⟩), .int .i64 u, .int .i64 k] w fun e w' => e = .returned (.int .i64 70) ∧ Below w.heap.size w w' := by
  have hm := may_any u
  rw [hu] at hm
  go_enter Tryd.func12, Tryd.ntmps12
  go_wp2_with (go_at_call 28; refine (hm _).mono ?_; rintro e w1 ⟨rfl, rfl⟩)
  go_ret
  exact ⟨rfl, Below.refl _ _⟩
set_option maxHeartbeats 1000000 in
set_option maxRecDepth 100000 in
theorem rchoose_out (S : Nat → Prop) (r : Nat) (f : Int) (G : List (Int × Int)) (N : List Int) (u k : Int) (w : World) (h : Rc w S r f G N) (hf : inI f) (hu : mayV u = true) (hk : inN f k = false) :
    Calls Tryd.prog 12 #[.pointer (some ⟨r, 0, none⟩), .int .i64 u, .int .i64 k] w fun e w' => e = .returned (.int .i64 40) ∧ Below w.heap.size w w' := by
  have hm := may_any u
  rw [hu] at hm
  have ha := fun w => refall_any f w hf.1 hf.2
  obtain ⟨m, hmm, hm10⟩ := more_is f
  rw [hmm] at ha
  unfold inN at hk
  rw [hmm] at hk
  have hk := of_decide_eq_false hk
  obtain ⟨v1, v2, hb, hr1, hr2, h1, h2, h3⟩ := h
  have c0 := hb.cell 0
  have HH := Lib.hid (And.intro hm ha)
  clear hb hr1 hr2 h2 h3 hm ha hmm
  by_cases h0 : k < 0
  · have h0' : decide (k < 0) = true := by simpa using h0
    go_enter Tryd.func12, Tryd.ntmps12
    go_wp2_with (go_at_call 28; refine (HH.out.1 _).mono ?_; rintro e w1 ⟨rfl, rfl⟩)
    go_ret
    exact ⟨rfl, Below.refl _ _⟩
  · have h0' : decide (k < 0) = false := by simpa using h0
    have h1' : decide ((m : Int) ≤ k) = true := by simp; omega
    clear hk
    go_enter Tryd.func12, Tryd.ntmps12
    go_wp2_with (first
      | (go_at_call 28; refine (HH.out.1 _).mono ?_; rintro e w1 ⟨rfl, rfl⟩)
      | (go_at_call 10; refine (HH.out.2 _).mono ?_; rintro e w1 ⟨rfl, rfl⟩))
    go_ret
    exact ⟨rfl, Below.refl _ _⟩
set_option maxHeartbeats 1000000 in
set_option maxRecDepth 100000 in
theorem rchoose_there (S : Nat → Prop) (r : Nat) (f : Int) (G : List (Int × Int)) (N : List Int) (u k : Int) (w : World) (h : Rc w S r f G N) (hf : inI f) (hlG : G.length ≤ 1000000000) (hlN : N.length ≤ 1000000000) (hu : mayV u = true) (hk : inN f k = true) (ht : thereV G N u = true) :
    Calls Tryd.prog 12 #[.pointer (some ⟨r, 0, none⟩), .int .i64 u, .int .i64 k] w fun e w' => e = .returned (.int .i64 100) ∧ Below w.heap.size w w' := by
  have hm := may_any u
  rw [hu] at hm
  have ha := fun w => refall_any f w hf.1 hf.2
  have hch := chosen_any S r f G N u w h hlG
  have hwas := was_any S r f G N u w h hlN
  obtain ⟨m, hmm, hm10⟩ := more_is f
  rw [hmm] at ha
  unfold inN at hk
  rw [hmm] at hk
  have hk := of_decide_eq_true hk
  have h0' : decide (k < 0) = false := by simp; omega
  have h1' : decide ((m : Int) ≤ k) = false := by simp; omega
  obtain ⟨v1, v2, hb, hr1, hr2, h1, h2, h3⟩ := h
  have c0 := hb.cell 0
  unfold thereV at ht
  obtain ⟨q, hq⟩ : ∃ q, q = chosenV G u := ⟨_, rfl⟩
  obtain ⟨b, hbq⟩ : ∃ b, b = decide (u ∈ N) := ⟨_, rfl⟩
  rw [← hq] at hch ht
  rw [← hbq] at hwas ht
  have HH := Lib.hid (And.intro hm (And.intro ha (And.intro hch hwas)))
  clear hb hr1 hr2 h2 h3 hm ha hmm hk hch hwas hq hbq
  by_cases hq0 : 0 ≤ q
  · have hq0' : decide (0 ≤ q) = true := by simpa using hq0
    clear ht
    go_enter Tryd.func12, Tryd.ntmps12
    go_wp2_with (first
      | (go_at_call 28; refine (HH.out.1 _).mono ?_; rintro e w1 ⟨rfl, rfl⟩)
      | (go_at_call 10; refine (HH.out.2.1 _).mono ?_; rintro e w1 ⟨rfl, rfl⟩)
      | (go_at_call 29; refine HH.out.2.2.1.mono ?_; rintro e w1 ⟨rfl, rfl⟩))
    go_ret
    exact ⟨rfl, Below.refl _ _⟩
  · have hq0' : decide (0 ≤ q) = false := by simpa using hq0
    rw [hq0', Bool.false_or] at ht
    subst ht
    go_enter Tryd.func12, Tryd.ntmps12
    go_wp2_with (first
      | (go_at_call 28; refine (HH.out.1 _).mono ?_; rintro e w1 ⟨rfl, rfl⟩)
      | (go_at_call 10; refine (HH.out.2.1 _).mono ?_; rintro e w1 ⟨rfl, rfl⟩)
      | (go_at_call 29; refine HH.out.2.2.1.mono ?_; rintro e w1 ⟨rfl, rfl⟩)
      | (go_at_call 19; refine HH.out.2.2.2.mono ?_; rintro e w1 ⟨rfl, rfl⟩))
    go_ret
    exact ⟨rfl, Below.refl _ _⟩
set_option maxHeartbeats 1000000 in
set_option maxRecDepth 100000 in
theorem rchoose_new (S : Nat → Prop) (r : Nat) (f : Int) (G : List (Int × Int)) (N : List Int) (u k : Int) (w : World) (h : Rc w S r f G N) (hf : inI f) (hlG : G.length ≤ 1000000000) (hlN : N.length ≤ 1000000000) (hu : mayV u = true) (hk : inN f k = true) (ht : thereV G N u = false) :
    Calls Tryd.prog 12 #[.pointer (some ⟨r, 0, none⟩), .int .i64 u, .int .i64 k] w fun e w' => e = .returned (.int .i64 0) ∧ Rc w' (moreB S w w') r f (G ++ [(u, k)]) N ∧ Turn S w w' := by
  have hm := may_any u
  rw [hu] at hm
  have ha := fun w => refall_any f w hf.1 hf.2
  have hch := chosen_any S r f G N u w h hlG
  have hwas := was_any S r f G N u w h hlN
  obtain ⟨m, hmm, hm10⟩ := more_is f
  rw [hmm] at ha
  unfold inN at hk
  rw [hmm] at hk
  have hk := of_decide_eq_true hk
  have h0' : decide (k < 0) = false := by simp; omega
  have h1' : decide ((m : Int) ≤ k) = false := by simp; omega
  obtain ⟨v1, v2, hb, hr1, hr2, h1, h2, h3⟩ := h
  have c0 := hb.cell 0
  have c1 := hb.cell 1
  obtain ⟨ht1, ht2⟩ := there_not.1 ht
  rw [decide_eq_false ht2] at hwas
  obtain ⟨q, hq⟩ : ∃ q, q = chosenV G u := ⟨_, rfl⟩
  rw [← hq] at hch ht1
  have hq0' : decide (0 ≤ q) = false := by simp; omega
  obtain ⟨i0, hi, hz0, hz1, hz2⟩ := info_parts shrInfo
  have hlen : (G.map gShr).length = G.length := by simp
  have hvg1 := own_blk_ne hr1 hb (by decide)
  have hv12 := row_ne_row hr1 hr2 (by decide)
  obtain ⟨A, cp, rfl, _, _⟩ := row_reads hr1
  have HH := Lib.hid (And.intro hm (And.intro ha (And.intro hch hwas)))
  have HR := Lib.hid (And.intro hr1 hr2)
  clear hr1 hr2 hm ha hmm hk hch hwas hq ht ht1 ht2
  go_enter Tryd.func12, Tryd.ntmps12
  go_wp2_with (first
    | (go_at_call 28; refine (HH.out.1 _).mono ?_; rintro e w1 ⟨rfl, rfl⟩)
    | (go_at_call 10; refine (HH.out.2.1 _).mono ?_; rintro e w1 ⟨rfl, rfl⟩)
    | (go_at_call 29; refine HH.out.2.2.1.mono ?_; rintro e w1 ⟨rfl, rfl⟩)
    | (go_at_call 19; refine HH.out.2.2.2.mono ?_; rintro e w1 ⟨rfl, rfl⟩)
    | (refine wpList_build rfl _ _ rfl #[(2, .int .i64 u)] rfl (build_choice u _) ?_)
    | (refine wpList_build rfl _ _ rfl #[(0, .int .i64 k), (1, .agg (stmC ⟨0, 0, u, 0, 0, 0, 0, 0, 0, 0⟩))] rfl (build_shr k ⟨0, 0, u, 0, 0, 0, 0, 0, 0, 0⟩ _) ?_)
    | (refine wpList_buildSlice rfl _ _ _ rfl #[(0, .agg (shrC (gShr (u, k))))] rfl (slice_shr (gShr (u, k)) w) ?_)
    | (at_builtin
       refine wpList_append_any _ rfl (.tmp 34) (.tmp 39) 37 rfl 0 53 i0 _ 11 88 Tryd.underlying37 hi hz0 hz1 hz2 rfl (by decide) (.slice A G.length cp) G.length (shrs (G.map gShr)) rfl
         (HR.out.1.alloc _) (w.heap.size + 1) (some ⟨w.heap.size, 0, none⟩) 1 1 (shrL (gShr (u, k))) rfl (reads_shr w (gShr (u, k)) _) (one_shrL _) (by unfold maxLen; omega) (by omega) (Nat.zero_le _) ?_
       intro v6 w6 ho6 hg6 hat6
       have hb6 := (hb.alloc (.cells (shrC (gShr (u, k))) 53)).grown hg6 (fun e => hvg1 e.symm)
       obtain ⟨A6, cp6, rfl, hc6, hrd6⟩ := row_reads ho6
       have d1 := hb6.cell 1
       have f1 := hb6.frozen 1))
  go_ret
  have hv6 : ∀ j, (Value.slice A6 (G.length + 1) cp6).ownBlock = some j → S j ∨ w.heap.size ≤ j := by
    intro j hj
    rcases hat6 with e | e
    · rw [e] at hj; exact .inl (h2 j hj)
    · rw [e] at hj; simp at hj; right; omega
  have hr2' : w6.ownsRow 0 3 1 v2 N.length (ints N) := (HR.out.2.alloc _).kept hg6 (by
    rcases hv : v2.ownBlock with _ | j
    · exact .inl rfl
    · right
      intro e
      exact hv12 j e.symm hv)
  have ht6 : Turn S w w6 := ((Turn.refl S w).alloc (.cells (shrC (gShr (u, k))) 53)).grown hg6 (fun i e => .inl (h2 i e))
  have hR7 := ((Turn.refl (fun j => j = r) w6).setCell (p := ⟨r, 1, none⟩) (.inl rfl) (.slice A6 (G.length + 1) cp6)).row ho6 (fun j hj e => own_blk_ne ho6 hb6 (by decide) (by rw [hj, e]))
  have hR8 := ((Turn.refl (fun j => j = r) w6).setCell (p := ⟨r, 1, none⟩) (.inl rfl) (.slice A6 (G.length + 1) cp6)).row hr2' (fun j hj e => own_blk_ne hr2' hb6 (by decide) (by rw [hj, e]))
  refine ⟨rfl, ⟨.slice A6 (G.length + 1) cp6, v2, hb6.set_ 1 _, ?_, hR8, .inl h1, fun j hj => (hv6 j hj).imp id (fun h => ⟨h, (hR7.lt j hj).2⟩), fun j hj => .inl (h3 j hj)⟩, ht6.setCell (.inl h1) _⟩
  rw [List.length_append, List.map_append, show List.map gShr [(u, k)] = [gShr (u, k)] from rfl, shrs_snoc]
  exact hR7
theorem rchoose_any (S : Nat → Prop) (r : Nat) (f : Int) (G : List (Int × Int)) (N : List Int) (u k : Int) (w : World) (h : Rc w S r f G N) (hf : inI f) (hlG : G.length ≤ 1000000000) (hlN : N.length ≤ 1000000000) :
    Calls Tryd.prog 12 #[.pointer (some ⟨r, 0, none⟩), .int .i64 u, .int .i64 k] w fun e w' => e = .returned (.int .i64 (chooseE f G N u k)) ∧ Rc w' (moreB S w w') r f (chooseG f G N u k) N ∧ Turn S w w' := by
  have low : ∀ w', Below w.heap.size w w' → Rc w' (moreB S w w') r f G N ∧ Turn S w w' := fun w' hb => ⟨(h.below hb).mono fun _ _ => .inl, Turn.of_keep hb⟩
  rcases Bool.eq_false_or_eq_true (mayV u) with hu | hu
  · rcases Bool.eq_false_or_eq_true (inN f k) with hk | hk
    · rcases Bool.eq_false_or_eq_true (thereV G N u) with ht | ht
      · have e1 : chooseE f G N u k = 100 := by unfold chooseE; rw [if_pos hu, if_pos hk, if_pos ht]
        have e2 : chooseG f G N u k = G := by unfold chooseG; rw [if_neg (by rw [e1]; decide)]
        rw [e1, e2]
        refine (rchoose_there S r f G N u k w h hf hlG hlN hu hk ht).mono ?_
        rintro e w' ⟨rfl, hb⟩
        exact ⟨rfl, low w' hb⟩
      · have e1 : chooseE f G N u k = 0 := by unfold chooseE; rw [if_pos hu, if_pos hk, if_neg (by rw [ht]; decide)]
        have e2 : chooseG f G N u k = G ++ [(u, k)] := by unfold chooseG; rw [if_pos e1]
        rw [e1, e2]
        exact rchoose_new S r f G N u k w h hf hlG hlN hu hk ht
    · have e1 : chooseE f G N u k = 40 := by unfold chooseE; rw [if_pos hu, if_neg (by rw [hk]; decide)]
      have e2 : chooseG f G N u k = G := by unfold chooseG; rw [if_neg (by rw [e1]; decide)]
      rw [e1, e2]
      refine (rchoose_out S r f G N u k w h hf hu hk).mono ?_
      rintro e w' ⟨rfl, hb⟩
      exact ⟨rfl, low w' hb⟩
  · have e1 : chooseE f G N u k = 70 := by unfold chooseE; rw [if_neg (by rw [hu]; decide)]
    have e2 : chooseG f G N u k = G := by unfold chooseG; rw [if_neg (by rw [e1]; decide)]
    rw [e1, e2]
    refine (rchoose_view r u k w hu).mono ?_
    rintro e w' ⟨rfl, hb⟩
    exact ⟨rfl, low w' hb⟩
end Go.Proofs.YtjkfogjhakcnfaaDoor
