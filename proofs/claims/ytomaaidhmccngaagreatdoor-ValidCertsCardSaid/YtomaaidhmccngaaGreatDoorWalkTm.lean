import Derived.Test.YtomaaidhmccngaaGreatDoorB6
import Derived.Test.YtomaaidhmccngaaGreatDoorB2
set_option linter.unusedSimpArgs false
set_option linter.unusedVariables false
set_option maxRecDepth 100000
set_option maxHeartbeats 16000000
namespace Go.Proofs.YtomaaidhmccngaaGreatDoor
open Go.RowKit Go.Maps Go.Lib
open L3 (Blk Reads)
open L11 (Crt zeroC crtL crtC mayV okW crtInfo qal Stm stmC qaU stmInfo qaj)
theorem five_b (a b c d e : Bool) : a = false ∨ (a = true /\ b = false) ∨ (a = true /\ b = true /\ c = false) ∨ (a = true /\ b = true /\ c = true /\ d = false) ∨ (a = true /\ b = true /\ c = true /\ d = true /\ e = false) ∨ (a = true /\ b = true /\ c = true /\ d = true /\ e = true) := by
 cases a <;> cases b <;> cases c <;> cases d <;> cases e <;> simp
theorem qfq (t : Tmo) (w : World) (h : t.wf) : Calls Tryz.prog 38 #[.agg (tmC t)] w (gives (.bool (tmoV t)) w) := by
 have hb0 : Below w.heap.size w (w.alloc (.cells (tmC t) 31)) := qae _ _
 obtain ⟨c0, c1, c2⟩ := qiM (w := w) (ty := 31) (t := t)
 have e : tmoV t = (decide (0 <= t.signer) && decide (t.signer <= 9) && decide (1 <= t.view) && decide (t.view <= 1048576) && openV t.high t.view) := by
  unfold tmoV L11.okW
  simp only [Bool.decide_and, Bool.and_assoc]
 rcases five_b (decide (0 <= t.signer)) (decide (t.signer <= 9)) (decide (1 <= t.view)) (decide (t.view <= 1048576)) (openV t.high t.view) with a1 | ⟨a1, a2⟩ | ⟨a1, a2, a3⟩ | ⟨a1, a2, a3, a4⟩ | ⟨a1, a2, a3, a4, a5⟩ | ⟨a1, a2, a3, a4, a5⟩
 ·have E := hid e
  have q1 := of_decide_eq_false a1
  rw [a1] at e
  have E2 := hid e
  clear e E a1
  go_enter Tryz.func38, Tryz.ntmps38
  go_wp2
  go_ret
  exact ⟨by rw [E2.out]; rfl, hb0⟩
 ·rw [a1, a2] at e
  have q1 := of_decide_eq_true a1
  have q2 := of_decide_eq_false a2
  have E2 := hid e
  clear e a1 a2
  go_enter Tryz.func38, Tryz.ntmps38
  go_wp2
  go_ret
  exact ⟨by rw [E2.out]; rfl, hb0⟩
 ·rw [a1, a2, a3] at e
  have q1 := of_decide_eq_true a1
  have q2 := of_decide_eq_true a2
  have q3 := of_decide_eq_false a3
  have E2 := hid e
  clear e a1 a2 a3
  go_enter Tryz.func38, Tryz.ntmps38
  go_wp2
  go_ret
  exact ⟨by rw [E2.out]; rfl, hb0⟩
 ·rw [a1, a2, a3, a4] at e
  have q1 := of_decide_eq_true a1
  have q2 := of_decide_eq_true a2
  have q3 := of_decide_eq_true a3
  have q4 := of_decide_eq_false a4
  have E2 := hid e
  clear e a1 a2 a3 a4
  go_enter Tryz.func38, Tryz.ntmps38
  go_wp2
  go_ret
  exact ⟨by rw [E2.out]; rfl, hb0⟩
 all_goals
  have hk := fun W => qez t.high t.view _ W h.2.2 a5
  rw [a1, a2, a3, a4, a5] at e
  have q1 := of_decide_eq_true a1
  have q2 := of_decide_eq_true a2
  have q3 := of_decide_eq_true a3
  have q4 := of_decide_eq_true a4
  have E2 := hid e
  clear e a1 a2 a3 a4 a5 h
  go_enter Tryz.func38, Tryz.ntmps38
  go_wp2_with (first
   | (refine qai rfl _ _ rfl ⟨w.heap.size, 2, none⟩ rfl (crtL t.high) _ c2 Tryz.underlying29 rfl crtInfo ?_)
   | (go_at_call 106; refine (hk _).mono ?_; unfold gives; rintro e w2 ⟨rfl, hb2⟩))
  go_ret
  exact ⟨by rw [E2.out]; rfl, nxt hb0 hb2⟩
def stmT (t : Tmo) : Stm := ⟨3, 0, t.view, 0, 0, 0, t.high.kind, t.high.block, t.high.view, t.high.round⟩
theorem qmH {t : Tmo} (h : t.wf) : (stmT t).wf := by
 have i0 : inI 0 := by unfold inI; omega
 have i3 : inI 3 := by unfold inI; omega
 exact ⟨i3, i0, h.2.1, i0, i0, i0, h.2.2.1, h.2.2.2.1, h.2.2.2.2.1, h.2.2.2.2.2.1⟩
theorem qiY (v k b hv hr : Int) (w : World) : (Instr.build 73 #[(0, .int .i64 3), (2, .int .i64 v), (6, .int .i64 k), (7, .int .i64 b), (8, .int .i64 hv), (9, .int .i64 hr)]).run Tryz.prog w = .ok (.agg (stmC ⟨3, 0, v, 0, 0, 0, k, b, hv, hr⟩)) w := run_build w _ _ _ (by kernel_rfl)
theorem sig_mk (w : World) (t : Tmo) : Blk ((w.alloc (.cells (tmC t) 31)).alloc (.cells (stmC L11.zeroM) 73)) w.heap.size 31 (tmC t) /\ Blk ((w.alloc (.cells (tmC t) 31)).alloc (.cells (stmC L11.zeroM) 73)) (w.heap.size + 1) 73 (stmC L11.zeroM) /\ Below w.heap.size w ((w.alloc (.cells (tmC t) 31)).alloc (.cells (stmC L11.zeroM) 73)) := by
 have hb := qae w (.cells (tmC t) 31)
 refine ⟨(qc0 w _ t).alloc _, ?_, hb.alloc hb.size _⟩
 have := Blk.new (w.alloc (.cells (tmC t) 31)) 73 (stmC L11.zeroM)
 simpa using this
theorem qe1 (t : Tmo) (w : World) : Calls Tryz.prog 67 #[.agg (tmC t)] w (gives (.agg (stmC (stmT t))) w) := by
 have hZ := hid (sig_mk w t)
 go_enter Tryz.func67, Tryz.ntmps67
 go_upto_region 1 with fail
 refine qab (fun w1 hw1 => ?_)
 have hA : Blk w1 w.heap.size 31 (tmC t) /\ Blk w1 (w.heap.size + 1) 73 (stmC L11.zeroM) /\ Below w.heap.size w w1 := by rw [hw1]; exact hZ.out
 clear hw1 hZ
 obtain ⟨k0, z0, hb⟩ := hA
 have c1 : w1.cell? ⟨w.heap.size, 1, none⟩ = some (.int .i64 t.view) := k0.cell 1
 have c2 : w1.cell? ⟨w.heap.size, 2, none⟩ = some (.int .i64 t.high.kind) := k0.cell 2
 have c3 : w1.cell? ⟨w.heap.size, 3, none⟩ = some (.int .i64 t.high.block) := k0.cell 3
 have c4 : w1.cell? ⟨w.heap.size, 4, none⟩ = some (.int .i64 t.high.view) := k0.cell 4
 have c5 : w1.cell? ⟨w.heap.size, 5, none⟩ = some (.int .i64 t.high.round) := k0.cell 5
 go_wp2_with (first
  | (refine wpList_build rfl _ _ rfl #[(0, .int .i64 3), (2, .int .i64 t.view), (6, .int .i64 t.high.kind), (7, .int .i64 t.high.block), (8, .int .i64 t.high.view), (9, .int .i64 t.high.round)] rfl (qiY _ _ _ _ _ _) ?_)
  | (refine wpList_store_row rfl _ _ _ rfl (w.heap.size + 1) (stmC (stmT t)) rfl rfl _ _ z0 stmInfo rfl (qaU _) ?_))
 (try simp only [Exit.inBlock, Exit.then])
 refine bodyPost_ret (v := .agg (stmC (stmT t))) (qan rfl _ _ (w.heap.size + 1) rfl _ _ _ _ (qac z0) Tryz.underlying73 rfl stmInfo) rfl ?_
 exact ⟨rfl, below_setRow hb (Nat.le_succ _)⟩
theorem qgF (t : Tmo) (w : World) : Calls Tryz.prog 70 #[.agg (tmC t)] w (gives (.agg (stmC (stmT t))) w) := by
 have hZ := hid (sig_mk w t)
 go_enter Tryz.func70, Tryz.ntmps70
 go_upto_region 1 with fail
 refine qab (fun w1 hw1 => ?_)
 have hA : Blk w1 w.heap.size 31 (tmC t) /\ Blk w1 (w.heap.size + 1) 73 (stmC L11.zeroM) /\ Below w.heap.size w w1 := by rw [hw1]; exact hZ.out
 clear hw1 hZ
 obtain ⟨k0, z0, hb⟩ := hA
 have c1 : w1.cell? ⟨w.heap.size, 1, none⟩ = some (.int .i64 t.view) := k0.cell 1
 have c2 : w1.cell? ⟨w.heap.size, 2, none⟩ = some (.int .i64 t.high.kind) := k0.cell 2
 have c3 : w1.cell? ⟨w.heap.size, 3, none⟩ = some (.int .i64 t.high.block) := k0.cell 3
 have c4 : w1.cell? ⟨w.heap.size, 4, none⟩ = some (.int .i64 t.high.view) := k0.cell 4
 have c5 : w1.cell? ⟨w.heap.size, 5, none⟩ = some (.int .i64 t.high.round) := k0.cell 5
 go_wp2_with (first
  | (refine wpList_build rfl _ _ rfl #[(0, .int .i64 3), (2, .int .i64 t.view), (6, .int .i64 t.high.kind), (7, .int .i64 t.high.block), (8, .int .i64 t.high.view), (9, .int .i64 t.high.round)] rfl (qiY _ _ _ _ _ _) ?_)
  | (refine wpList_store_row rfl _ _ _ rfl (w.heap.size + 1) (stmC (stmT t)) rfl rfl _ _ z0 stmInfo rfl (qaU _) ?_))
 (try simp only [Exit.inBlock, Exit.then])
 refine bodyPost_ret (v := .agg (stmC (stmT t))) (qan rfl _ _ (w.heap.size + 1) rfl _ _ _ _ (qac z0) Tryz.underlying73 rfl stmInfo) rfl ?_
 exact ⟨rfl, below_setRow hb (Nat.le_succ _)⟩
