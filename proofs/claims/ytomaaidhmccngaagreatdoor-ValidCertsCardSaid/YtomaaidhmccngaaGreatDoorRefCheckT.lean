import Derived.Test.YtomaaidhmccngaaGreatDoorCheckT
set_option linter.unusedSimpArgs false
set_option linter.unusedVariables false
set_option maxRecDepth 100000
set_option maxHeartbeats 16000000
namespace Go.Proofs.YtomaaidhmccngaaGreatDoor
open Go.RowKit Go.Lib
theorem threeR (a b : Bool) : a = false ∨ (a = true /\ b = false) ∨ (a = true /\ b = true) := by cases a <;> cases b <;> simp
theorem qa2 (t : Txx) (w : World) (h : t.wf 1000000) : Calls Tryz.prog 105 #[.agg (txC t)] w (gives (.bool (right t)) w) := by
 have hb0 : Below w.heap.size w (w.alloc (.cells (txC t) 133)) := qa9 _ t
 have B0 := hid (fun w1 => @qdA w w1 133 t)
 obtain ⟨c0, c1, c2, c3, c4, c5, c6⟩ := qaX (qa6 w 133 t)
 obtain ⟨h0, h1, h2, h3, h4, h5, h6⟩ := h
 have HE := hid (right_eq t)
 clear h0 h5 h6
 rcases (show t.nonce < 1 ∨ (1 <= t.nonce /\ 4611686018427387904 < t.nonce) ∨ (1 <= t.nonce /\ t.nonce <= 4611686018427387904) by omega) with n0 | ⟨n0, n1⟩ | ⟨n0, n1⟩
 ·have hp : posN t.nonce = false := by unfold posN; simp; omega
  go_enter Tryz.func105, Tryz.ntmps105
  go_wp2
  go_ret
  exact ⟨by rw [HE.out, hp]; rfl, hb0⟩
 ·have hp : posN t.nonce = false := by unfold posN; simp; omega
  go_enter Tryz.func105, Tryz.ntmps105
  go_wp2
  go_ret
  exact ⟨by rw [HE.out, hp]; rfl, hb0⟩
 have HP : Hid (posN t.nonce = true) := hid (by unfold posN; simp; omega)
 rcases (Bool.eq_false_or_eq_true (L2.chk t.frm)).symm with a | a
 ·go_enter Tryz.func105, Tryz.ntmps105
  go_wp2_with (go_at_call 148; (with_reducible refine (qba _ _ _ h1 a).mono ?_); unfold gives; rintro e w1 ⟨rfl, hb1⟩)
  go_ret
  exact ⟨by rw [HE.out, a]; simp, nxt hb0 hb1⟩
 by_cases hk : t.kind = 1
 ·have e : fitsB t = (L2.chk t.to && (decide (1 <= t.amount) && decide (t.amount <= 4611686018427387904)) && t.key.isEmpty && t.val.isEmpty) := by unfold fitsB; rw [hk, qmf]; simp
  rw [hk] at c0
  have HA := hid a
  have B1 : Hid (∀ w1, Below (w.alloc (.cells (txC t) 133)).heap.size (w.alloc (.cells (txC t) 133)) w1 -> Box w1 w.heap.size 1 t.frm t.to t.key t.val t.amount t.nonce) := hid fun w1 h => by have := B0.out w1 h; rw [hk] at this; exact this
  have E := hid e
  clear e hk B0
  rcases (Bool.eq_false_or_eq_true (L2.chk t.to)).symm with b | b
  ·go_enter Tryz.func105, Tryz.ntmps105
   go_wp2_with (go_at_call 148; first | ((with_reducible refine (qba _ _ _ h1 a).mono ?_); unfold gives; rintro e w1 ⟨rfl, hb1⟩; obtain ⟨d0, d1, d2, d3, d4, d5, d6⟩ := B1.out _ hb1) | ((with_reducible refine (qba _ _ _ h2 b).mono ?_); unfold gives; rintro e w2 ⟨rfl, hb2⟩))
   go_ret
   exact ⟨by rw [HE.out, E.out, b]; simp, nxt (nxt hb0 hb1) hb2⟩
  rcases (show t.amount < 1 ∨ (1 <= t.amount /\ 4611686018427387904 < t.amount) ∨ (1 <= t.amount /\ t.amount <= 4611686018427387904) by omega) with m0 | ⟨m0, m1⟩ | ⟨m0, m1⟩
  case' inr.inr => rcases threeR t.key.isEmpty t.val.isEmpty with x | ⟨x, y⟩ | ⟨x, y⟩
  all_goals
   (try have x' := qd7 x)
   (try have x' := qcz x)
   (try have y' := qd7 y)
   (try have y' := qcz y)
   go_enter Tryz.func105, Tryz.ntmps105
   go_wp2_with (go_at_call 148; first | ((with_reducible refine (qba _ _ _ h1 a).mono ?_); unfold gives; rintro e w1 ⟨rfl, hb1⟩; obtain ⟨d0, d1, d2, d3, d4, d5, d6⟩ := B1.out _ hb1) | ((with_reducible refine (qba _ _ _ h2 b).mono ?_); unfold gives; rintro e w2 ⟨rfl, hb2⟩; have g3 := (hb2.cell (L2.qbe d3)).trans d3; have g4 := (hb2.cell (L2.qbe d4)).trans d4; have g5 := (hb2.cell (L2.qbe d5)).trans d5))
   go_ret
   refine ⟨?_, nxt (nxt hb0 hb1) hb2⟩
   rw [HE.out, E.out, HP.out, HA.out, b]
   simp [*] <;> omega
 ·have hk' : (t.kind == 1) = false := by simpa using hk
  have HA := hid a
  by_cases hk2 : t.kind = 2
  ·have e : fitsB t = (L2.chk t.key && L2.vlu t.val && t.to.isEmpty && decide (t.amount = 0)) := by unfold fitsB; rw [hk2]; simp
   have B1 : Hid (∀ w1, Below (w.alloc (.cells (txC t) 133)).heap.size (w.alloc (.cells (txC t) 133)) w1 -> Box w1 w.heap.size 2 t.frm t.to t.key t.val t.amount t.nonce) := hid fun w1 h => by have := B0.out w1 h; rw [hk2] at this; exact this
   have E := hid e
   clear e hk hk' hk2 B0 c0
   rcases four (L2.chk t.key) (L2.vlu t.val) t.to.isEmpty (decide (t.amount = 0)) with x | ⟨x, y⟩ | ⟨x, y, z⟩ | ⟨x, y, z, u⟩ | ⟨x, y, z, u⟩
   case' inr.inr.inl => have z' := qd7 z
   case' inr.inr.inr.inl => have z' := qcz z; have u' : (t.amount == 0) = false := by simpa using u
   case' inr.inr.inr.inr => have z' := qcz z; have u' : (t.amount == 0) = true := by simpa using u
   all_goals
    go_enter Tryz.func105, Tryz.ntmps105
    go_wp2_with (first
     | (go_at_call 148; first | ((with_reducible refine (qba _ _ _ h1 a).mono ?_); unfold gives; rintro e w1 ⟨rfl, hb1⟩; obtain ⟨d0, d1, d2, d3, d4, d5, d6⟩ := B1.out _ hb1; replace hb1 := nxt hb0 hb1) | ((with_reducible refine (qba _ _ _ h3 x).mono ?_); unfold gives; rintro e w2 ⟨rfl, hb2⟩; have g2 := (hb2.cell (L2.qbe d2)).trans d2; have g4 := (hb2.cell (L2.qbe d4)).trans d4; have g5 := (hb2.cell (L2.qbe d5)).trans d5; replace hb2 := nxt hb1 hb2; have hb3 := hb2))
     | (go_at_call 149; (with_reducible refine (qgn _ _ _ h4 y).mono ?_); unfold gives; rintro e w3 ⟨rfl, hb4⟩; have k2 := (hb4.cell (L2.qbe g2)).trans g2; have k5 := (hb4.cell (L2.qbe g5)).trans g5; replace hb3 := nxt hb2 hb4))
    go_ret
    refine ⟨?_, hb3⟩
    rw [HE.out, E.out, HP.out, HA.out]
    simp [*]
  ·have hk3 : (t.kind == 2) = false := by simpa using hk2
   have e : fitsB t = false := by unfold fitsB; simp [hk, hk2]
   have E := hid e
   clear e hk hk2
   go_enter Tryz.func105, Tryz.ntmps105
   go_wp2_with (go_at_call 148; (with_reducible refine (qba _ _ _ h1 a).mono ?_); unfold gives; rintro e w1 ⟨rfl, hb1⟩; obtain ⟨d0, d1, d2, d3, d4, d5, d6⟩ := B0.out _ hb1)
   go_ret
   exact ⟨by rw [HE.out, E.out]; simp, nxt hb0 hb1⟩
