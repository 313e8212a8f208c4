import Derived.Test.YtomaaidhmccngaaGreatDoorCall
set_option linter.unusedSimpArgs false
set_option linter.unusedVariables false
set_option maxRecDepth 100000
set_option maxHeartbeats 16000000
namespace Go.Proofs.YtomaaidhmccngaaGreatDoor
open Go.RowKit Go.Lib
def fitsB (t : Txx) : Bool :=
 (decide (t.kind = 1) && (L2.chk t.to && posN t.amount && t.key.isEmpty && t.val.isEmpty)) || (decide (t.kind = 2) && (L2.chk t.key && L2.vlu t.val && t.to.isEmpty && decide (t.amount = 0)))
theorem right_eq (t : Txx) : right t = (posN t.nonce && L2.chk t.frm && fitsB t) := rfl
theorem isE {l : List UInt8} (h : l.isEmpty = true) : l = [] := List.isEmpty_iff.1 h
theorem qcz {l : List UInt8} (h : l.isEmpty = true) : ((str l).toList == []) = true := by rw [qgf, isE h]; rfl
theorem qd7 {l : List UInt8} (h : l.isEmpty = false) : ((str l).toList == []) = false := by rw [qgf]; cases l with | nil => cases h | cons => rfl
theorem four (a b c d : Bool) : a = false ∨ (a = true /\ b = false) ∨ (a = true /\ b = true /\ c = false) ∨ (a = true /\ b = true /\ c = true /\ d = false) ∨ (a = true /\ b = true /\ c = true /\ d = true) := by
 cases a <;> cases b <;> cases c <;> cases d <;> simp
theorem qdH (t : Txx) (w : World) (h : t.wf 1000000) (hT : Tabs w) : Calls Tryz.prog 199 #[.agg (txC t)] w (gives (.bool (fitsB t)) w) := by
 obtain ⟨h0, h1, h2, h3, h4, h5, h6⟩ := h
 have hb0 : Below w.heap.size w (w.alloc (.cells (txC t) 133)) := qa9 _ t
 have hT0 := hid (fun w' (hb : Below w.heap.size w w') => hT.kept hb)
 have B0 := hid (fun w1 => @qdA w w1 133 t)
 obtain ⟨c0, c1, c2, c3, c4, c5, c6⟩ := qaX (qa6 w 133 t)
 clear hT
 by_cases hk : t.kind = 1
 ·have e : fitsB t = (L2.chk t.to && posN t.amount && t.key.isEmpty && t.val.isEmpty) := by unfold fitsB; rw [hk]; simp
  rw [hk] at c0
  clear hk h0 h1 h6
  rcases four (L2.chk t.to) (posN t.amount) t.key.isEmpty t.val.isEmpty with a | ⟨a, b⟩ | ⟨a, b, c⟩ | ⟨a, b, c, d⟩ | ⟨a, b, c, d⟩
  case' inr.inr.inl => have c' := qd7 c
  case' inr.inr.inr.inl => have c' := qcz c; have d' := qd7 d
  case' inr.inr.inr.inr => have c' := qcz c; have d' := qcz d
  all_goals
   have HE : Hid (fitsB t = _) := hid e
   clear e
   go_enter Tryz.func199, Tryz.ntmps199
   go_wp2_with (first
    | (go_at_call 197; first | ((with_reducible refine (qeV _ _ h2 a).mono ?_); unfold gives; rintro e w1 ⟨rfl, hb1⟩; obtain ⟨_, _, _, d3, d4, d5, _⟩ := B0.out _ hb1) | ((with_reducible refine (qeU _ _ h2 a).mono ?_); unfold gives; rintro e w1 ⟨rfl, hb1⟩))
    | (go_at_call 198; (with_reducible refine (qe5 _ _ _ b).mono ?_); rintro e w2 ⟨rfl, rfl⟩))
   go_ret
   refine ⟨?_, nxt hb0 hb1⟩
   rw [HE.out]
   simp [*]
 ·have hk' : (t.kind == 1) = false := by simpa using hk
  by_cases hk2 : t.kind = 2
  ·have e : fitsB t = (L2.chk t.key && L2.vlu t.val && t.to.isEmpty && decide (t.amount = 0)) := by unfold fitsB; rw [hk2]; simp
   rw [hk2] at c0
   clear hk hk' hk2 h0 h1 h6
   rcases four (L2.chk t.key) (L2.vlu t.val) t.to.isEmpty (decide (t.amount = 0)) with a | ⟨a, b⟩ | ⟨a, b, c⟩ | ⟨a, b, c, d⟩ | ⟨a, b, c, d⟩
   case' inr.inr.inl => have c' := qd7 c
   case' inr.inr.inr.inl => have c' := qcz c; have d' : (t.amount == 0) = false := by simpa using d
   case' inr.inr.inr.inr => have c' := qcz c; have d' : (t.amount == 0) = true := by simpa using d
   all_goals
    have HE : Hid (fitsB t = _) := hid e
    clear e
    go_enter Tryz.func199, Tryz.ntmps199
    go_wp2_with (first
     | (go_at_call 197; first | ((with_reducible refine (qeV _ _ h3 a).mono ?_); unfold gives; rintro e w1 ⟨rfl, hb1⟩; obtain ⟨_, _, d2, _, d4, d5, _⟩ := B0.out _ hb1; replace hb1 := nxt hb0 hb1; clear hb0; have hb2 := hb1) | ((with_reducible refine (qeU _ _ h3 a).mono ?_); unfold gives; rintro e w1 ⟨rfl, hb1⟩; have hb2 := nxt hb0 hb1))
     | (go_at_call 211; first | ((with_reducible refine (qjV _ _ h4 (hT0.out _ hb1) b).mono ?_); unfold gives; rintro e w2 ⟨rfl, hb3⟩; have g2 := (hb3.cell (L2.qbe d2)).trans d2; have g5 := (hb3.cell (L2.qbe d5)).trans d5; replace hb2 := nxt hb1 hb3) | ((with_reducible refine (qjU _ _ h4 (hT0.out _ hb1) b).mono ?_); unfold gives; rintro e w2 ⟨rfl, hb3⟩; replace hb2 := nxt hb1 hb3)))
    go_ret
    refine ⟨?_, hb2⟩
    rw [HE.out]
    simp [*]
  ·have hk3 : (t.kind == 2) = false := by simpa using hk2
   have e : fitsB t = false := by unfold fitsB; simp [hk, hk2]
   rw [e]
   clear e hk hk2
   go_enter Tryz.func199, Tryz.ntmps199
   go_wp2
   go_ret
   exact ⟨rfl, hb0⟩
theorem qaD (t : Txx) (w : World) (h : t.wf 1000000) (hT : Tabs w) : Calls Tryz.prog 176 #[.agg (txC t)] w (gives (.int .i64 (errI (right t) 80)) w) := by
 have hb0 : Below w.heap.size w (w.alloc (.cells (txC t) 133)) := qa9 _ t
 have hT0 := hid (fun w' (hb : Below w.heap.size w w') => hT.kept hb)
 have B0 := hid (fun w1 => @qdA w w1 133 t)
 have K0 := hid (fun w1 (hb : Below (w.alloc (.cells (txC t) 133)).heap.size (w.alloc (.cells (txC t) 133)) w1) => (qa6 w 133 t).below hb (by simp))
 have hF := hid (fun w' hT' => qdH t w' h hT')
 obtain ⟨c0, c1, c2, c3, c4, c5, c6⟩ := qaX (qa6 w 133 t)
 have h1 := h.2.1
 clear hT h
 have e : right t = (posN t.nonce && L2.chk t.frm && fitsB t) := rfl
 have HE := hid e
 clear e
 rcases four (L2.chk t.frm) (posN t.nonce) (fitsB t) true with a | ⟨a, b⟩ | ⟨a, b, c⟩ | ⟨a, b, c, d⟩ | ⟨a, b, c, _⟩
 case' inr.inr.inr.inl => cases d
 all_goals
  go_enter Tryz.func176, Tryz.ntmps176
  go_wp2_with (first
   | (go_at_call 197; first | ((with_reducible refine (qeV _ _ h1 a).mono ?_); unfold gives; rintro e w1 ⟨rfl, hb1⟩; obtain ⟨_, _, _, _, _, _, d6⟩ := B0.out _ hb1; have k1 := K0.out _ hb1; replace hb1 := nxt hb0 hb1; have hb2 := hb1) | ((with_reducible refine (qeU _ _ h1 a).mono ?_); unfold gives; rintro e w1 ⟨rfl, hb1⟩; have hb2 := nxt hb0 hb1))
   | (go_at_call 198; (with_reducible refine (qe5 _ _ _ b).mono ?_); rintro e w2 ⟨rfl, rfl⟩)
   | (refine qaa rfl _ _ rfl w.heap.size rfl _ _ _ _ k1 Tryz.underlying133 rfl (by kernel_rfl) ?_)
   | (go_at_call 199; refine (hF.out _ (hT0.out _ hb1)).mono ?_; rw [c]; unfold gives; rintro e w3 ⟨rfl, hb3⟩; replace hb2 := nxt hb1 hb3))
  go_ret
  refine ⟨?_, hb2⟩
  rw [HE.out]
  first | (rw [a, b, c]; rfl) | (rw [a, b]; rfl) | (rw [a]; simp [errI])
