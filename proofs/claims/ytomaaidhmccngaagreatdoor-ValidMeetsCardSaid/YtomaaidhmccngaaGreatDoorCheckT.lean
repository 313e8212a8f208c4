/-
  Which transactions are right, by the code and by the document's answer: the same.
-/
import Derived.Test.YtomaaidhmccngaaGreatDoorCall
set_option linter.unusedSimpArgs false
set_option linter.unusedVariables false
namespace Go.Proofs.YtomaaidhmccngaaGreatDoor
open Go.RowKit Go.Lib

/-- What its kind names is right, and the rest zero. -/
def fitsB (t : Txx) : Bool :=
  (decide (t.kind = 1) && (L2.chk t.to && posN t.amount && t.key.isEmpty && t.val.isEmpty)) || (decide (t.kind = 2) && (L2.chk t.key && L2.vlu t.val && t.to.isEmpty && decide (t.amount = 0)))
theorem right_eq (t : Txx) : right t = (posN t.nonce && L2.chk t.frm && fitsB t) := rfl
theorem isE {l : List UInt8} (h : l.isEmpty = true) : l = [] := List.isEmpty_iff.1 h
theorem noE {l : List UInt8} (h : l.isEmpty = false) : l ≠ [] := by intro e; rw [e] at h; cases h
theorem str_is0 {l : List UInt8} (h : l.isEmpty = true) : ((str l).toList == []) = true := by rw [str_toList, isE h]; rfl
theorem str_no0 {l : List UInt8} (h : l.isEmpty = false) : ((str l).toList == []) = false := by rw [str_toList]; cases l with | nil => cases h | cons => rfl
/-- The first of four that is false, or none. -/
theorem four (a b c d : Bool) : a = false ∨ (a = true ∧ b = false) ∨ (a = true ∧ b = true ∧ c = false) ∨ (a = true ∧ b = true ∧ c = true ∧ d = false) ∨ (a = true ∧ b = true ∧ c = true ∧ d = true) := by
  cases a <;> cases b <;> cases c <;> cases d <;> simp
set_option maxHeartbeats 1000000 in
set_option maxRecDepth 100000 in
theorem fits_any (t : Txx) (w : World) (h : t.wf 1000000) (hT : Tabs w) : Calls Tryz.prog 199 #[.agg (txC t)] w (gives (.bool (fitsB t)) w) := by
  obtain ⟨h0, h1, h2, h3, h4, h5, h6⟩ := h
  have hb0 : Below w.heap.size w (w.alloc (.cells (txC t) 133)) := below_box _ t
  have hT0 := Lib.hid (fun w' (hb : Below w.heap.size w w') => hT.kept hb)
  have B0 := Lib.hid (fun w1 => @box_at w w1 133 t)
  obtain ⟨c0, c1, c2, c3, c4, c5, c6⟩ := box_of (box_new w 133 t)
  clear hT
  by_cases hk : t.kind = 1
  · have e : fitsB t = (L2.chk t.to && posN t.amount && t.key.isEmpty && t.val.isEmpty) := by unfold fitsB; rw [hk]; simp
    rw [hk] at c0
    clear hk h0 h1 h6
    rcases four (L2.chk t.to) (posN t.amount) t.key.isEmpty t.val.isEmpty with a | ⟨a, b⟩ | ⟨a, b, c⟩ | ⟨a, b, c, d⟩ | ⟨a, b, c, d⟩
    case' inr.inr.inl => have c' := str_no0 c
    case' inr.inr.inr.inl => have c' := str_is0 c; have d' := str_no0 d
    case' inr.inr.inr.inr => have c' := str_is0 c; have d' := str_is0 d
    all_goals
      have HE : Hid (fitsB t = _) := Lib.hid e
      clear e
      go_enter Tryz.func199, Tryz.ntmps199
      go_wp2_with (first
        | (go_at_call 197; first | ((with_reducible refine (c_name_ok _ _ h2 a).mono ?_); unfold gives; rintro e w1 ⟨rfl, hb1⟩; obtain ⟨_, _, _, d3, d4, d5, _⟩ := B0.out _ hb1) | ((with_reducible refine (c_name_no _ _ h2 a).mono ?_); unfold gives; rintro e w1 ⟨rfl, hb1⟩))
        | (go_at_call 198; (with_reducible refine (c_counted_is _ _ _ b).mono ?_); rintro e w2 ⟨rfl, rfl⟩))
      go_ret
      refine ⟨?_, nxt hb0 hb1⟩
      rw [HE.out]
      simp [*]
  · have hk' : (t.kind == 1) = false := by simpa using hk
    by_cases hk2 : t.kind = 2
    · have e : fitsB t = (L2.chk t.key && L2.vlu t.val && t.to.isEmpty && decide (t.amount = 0)) := by unfold fitsB; rw [hk2]; simp
      rw [hk2] at c0
      clear hk hk' hk2 h0 h1 h6
      rcases four (L2.chk t.key) (L2.vlu t.val) t.to.isEmpty (decide (t.amount = 0)) with a | ⟨a, b⟩ | ⟨a, b, c⟩ | ⟨a, b, c, d⟩ | ⟨a, b, c, d⟩
      case' inr.inr.inl => have c' := str_no0 c
      case' inr.inr.inr.inl => have c' := str_is0 c; have d' : (t.amount == 0) = false := by simpa using d
      case' inr.inr.inr.inr => have c' := str_is0 c; have d' : (t.amount == 0) = true := by simpa using d
      all_goals
        have HE : Hid (fitsB t = _) := Lib.hid e
        clear e
        go_enter Tryz.func199, Tryz.ntmps199
        go_wp2_with (first
          | (go_at_call 197; first | ((with_reducible refine (c_name_ok _ _ h3 a).mono ?_); unfold gives; rintro e w1 ⟨rfl, hb1⟩; obtain ⟨_, _, d2, _, d4, d5, _⟩ := B0.out _ hb1; replace hb1 := nxt hb0 hb1; clear hb0; have hb2 := hb1) | ((with_reducible refine (c_name_no _ _ h3 a).mono ?_); unfold gives; rintro e w1 ⟨rfl, hb1⟩; have hb2 := nxt hb0 hb1))
          | (go_at_call 211; first | ((with_reducible refine (c_value_ok _ _ h4 (hT0.out _ hb1) b).mono ?_); unfold gives; rintro e w2 ⟨rfl, hb3⟩; have g2 := (hb3.cell (L2.cell_in d2)).trans d2; have g5 := (hb3.cell (L2.cell_in d5)).trans d5; replace hb2 := nxt hb1 hb3) | ((with_reducible refine (c_value_no _ _ h4 (hT0.out _ hb1) b).mono ?_); unfold gives; rintro e w2 ⟨rfl, hb3⟩; replace hb2 := nxt hb1 hb3)))
        go_ret
        refine ⟨?_, hb2⟩
        rw [HE.out]
        simp [*]
    · have hk3 : (t.kind == 2) = false := by simpa using hk2
      have e : fitsB t = false := by unfold fitsB; simp [hk, hk2]
      rw [e]
      clear e hk hk2
      go_enter Tryz.func199, Tryz.ntmps199
      go_wp2
      go_ret
      exact ⟨rfl, hb0⟩
set_option maxHeartbeats 1000000 in
set_option maxRecDepth 100000 in
theorem check_any (t : Txx) (w : World) (h : t.wf 1000000) (hT : Tabs w) : Calls Tryz.prog 176 #[.agg (txC t)] w (gives (.int .i64 (errI (right t) 80)) w) := by
  have hb0 : Below w.heap.size w (w.alloc (.cells (txC t) 133)) := below_box _ t
  have hT0 := Lib.hid (fun w' (hb : Below w.heap.size w w') => hT.kept hb)
  have B0 := Lib.hid (fun w1 => @box_at w w1 133 t)
  have K0 := Lib.hid (fun w1 (hb : Below (w.alloc (.cells (txC t) 133)).heap.size (w.alloc (.cells (txC t) 133)) w1) => (box_new w 133 t).below hb (by simp))
  have hF := Lib.hid (fun w' hT' => fits_any t w' h hT')
  obtain ⟨c0, c1, c2, c3, c4, c5, c6⟩ := box_of (box_new w 133 t)
  have h1 := h.2.1
  clear hT h
  have e : right t = (posN t.nonce && L2.chk t.frm && fitsB t) := rfl
  have HE := Lib.hid e
  clear e
  rcases four (L2.chk t.frm) (posN t.nonce) (fitsB t) true with a | ⟨a, b⟩ | ⟨a, b, c⟩ | ⟨a, b, c, d⟩ | ⟨a, b, c, _⟩
  case' inr.inr.inr.inl => cases d
  all_goals
    go_enter Tryz.func176, Tryz.ntmps176
    go_wp2_with (first
      | (go_at_call 197; first | ((with_reducible refine (c_name_ok _ _ h1 a).mono ?_); unfold gives; rintro e w1 ⟨rfl, hb1⟩; obtain ⟨_, _, _, _, _, _, d6⟩ := B0.out _ hb1; have k1 := K0.out _ hb1; replace hb1 := nxt hb0 hb1; have hb2 := hb1) | ((with_reducible refine (c_name_no _ _ h1 a).mono ?_); unfold gives; rintro e w1 ⟨rfl, hb1⟩; have hb2 := nxt hb0 hb1))
      | (go_at_call 198; (with_reducible refine (c_counted_is _ _ _ b).mono ?_); rintro e w2 ⟨rfl, rfl⟩)
      | (refine wpList_row_at rfl _ _ rfl w.heap.size rfl _ _ _ _ k1 Tryz.underlying133 rfl (by kernel_rfl) ?_)
      | (go_at_call 199; refine (hF.out _ (hT0.out _ hb1)).mono ?_; rw [c]; unfold gives; rintro e w3 ⟨rfl, hb3⟩; replace hb2 := nxt hb1 hb3))
    go_ret
    refine ⟨?_, hb2⟩
    rw [HE.out]
    first | (rw [a, b, c]; rfl) | (rw [a, b]; rfl) | (rw [a]; simp [errI])
end Go.Proofs.YtomaaidhmccngaaGreatDoor
