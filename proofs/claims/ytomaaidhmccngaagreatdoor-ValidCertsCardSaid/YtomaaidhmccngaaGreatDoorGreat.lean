import Derived.Test.YtomaaidhmccngaaGreatDoorRefCheckT
set_option linter.unusedSimpArgs false
set_option linter.unusedVariables false
set_option maxRecDepth 100000
set_option maxHeartbeats 16000000
namespace Go.Proofs.YtomaaidhmccngaaGreatDoor
open Go.RowKit Go.Lib
theorem ret_b {a b : Bool} (h : a = b) : Ending.returned (.bool a) = .returned (.bool b) := by rw [h]
def greatB (t : Txx) : Bool := decide (1000 < t.frm.length) || decide (1000 < t.to.length) || decide (1000 < t.key.length) || decide (1000 < t.val.length)
theorem great_wf {t : Txx} {n : Nat} (h : t.wf n) (hg : greatB t = false) : t.wf 1000 := by
 obtain ⟨h0, h1, h2, h3, h4, h5, h6⟩ := h
 unfold greatB at hg
 simp only [Bool.or_eq_false_iff, decide_eq_false_iff_not] at hg
 exact ⟨h0, by omega, by omega, by omega, by omega, h5, h6⟩
theorem qlA (t : Txx) (w : World) : Calls Tryz.prog 85 #[.agg (txC t)] w (gives (.bool (greatB t)) w) := by
 have hb0 : Below w.heap.size w (w.alloc (.cells (txC t) 133)) := qa9 _ t
 obtain ⟨c0, c1, c2, c3, c4, c5, c6⟩ := qaX (qa6 w 133 t)
 have HG : Hid (greatB t = (decide (1000 < t.frm.length) || decide (1000 < t.to.length) || decide (1000 < t.key.length) || decide (1000 < t.val.length))) := hid rfl
 have z1 := qa4 t.frm
 have z2 := qa4 t.to
 have z3 := qa4 t.key
 have z4 := qa4 t.val
 rcases (show 1000 < t.frm.length ∨ (t.frm.length <= 1000 /\ 1000 < t.to.length) ∨ (t.frm.length <= 1000 /\ t.to.length <= 1000 /\ 1000 < t.key.length) ∨ (t.frm.length <= 1000 /\ t.to.length <= 1000 /\ t.key.length <= 1000 /\ 1000 < t.val.length) ∨ (t.frm.length <= 1000 /\ t.to.length <= 1000 /\ t.key.length <= 1000 /\ t.val.length <= 1000) by omega) with a | ⟨a, b⟩ | ⟨a, b, c⟩ | ⟨a, b, c, d⟩ | ⟨a, b, c, d⟩
 all_goals
  go_enter Tryz.func85, Tryz.ntmps85
  go_wp2
  go_ret
  refine ⟨?_, hb0⟩
  rw [HG.out]
  refine ret_b ?_
  rw [Bool.eq_iff_iff]
  simp only [Bool.or_eq_true, decide_eq_true_eq, true_iff, iff_true, false_iff, Bool.false_eq_true]
  omega
