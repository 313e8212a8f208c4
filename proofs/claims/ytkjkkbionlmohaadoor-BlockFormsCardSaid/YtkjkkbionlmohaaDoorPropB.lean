/-
  What is signed for a block.
-/
import Derived.Test.YtkjkkbionlmohaaDoorWalkTm
import Derived.Test.YtkjkkbionlmohaaDoorChkB
set_option linter.unusedSimpArgs false
set_option linter.unusedVariables false
set_option maxRecDepth 10000
namespace Go.Proofs.YtkjkkbionlmohaaDoor
open Go.RowKit Go.Maps Go.Lib
open L3 (Blk Reads)
open L11 (Crt zeroC crtL crtC Stm stmC stmC_ones stmInfo wpQuiet_fn)

def stmP (n : Int) (b : Blo) : Stm := ⟨1, n, b.view, b.round, b.height, b.author, 0, 0, 0, 0⟩
theorem stmP_wf {n : Int} {b : Blo} (h : b.wf) (hn : inI n) : (stmP n b).wf := by
  have i0 : inI 0 := by unfold inI; omega
  have i1 : inI 1 := by unfold inI; omega
  exact ⟨i1, hn, h.view, h.round, h.height, h.author, i0, i0, i0, i0⟩
theorem build_pr (n v r h a : Int) (w : World) : (Instr.build 38 #[(0, .int .i64 1), (1, .int .i64 n), (2, .int .i64 v), (3, .int .i64 r), (4, .int .i64 h), (5, .int .i64 a)]).run Tryd.prog w = .ok (.agg (stmC ⟨1, n, v, r, h, a, 0, 0, 0, 0⟩)) w := run_build w _ _ _ (by kernel_rfl)
theorem pro_mk (w : World) (b : Blo) (P T : Value) : Blk ((w.alloc (.cells (bloC b P T) 28)).alloc (.cells (stmC L11.zeroM) 38)) w.heap.size 28 (bloC b P T) ∧ Blk ((w.alloc (.cells (bloC b P T) 28)).alloc (.cells (stmC L11.zeroM) 38)) (w.heap.size + 1) 38 (stmC L11.zeroM) ∧ Below w.heap.size w ((w.alloc (.cells (bloC b P T) 28)).alloc (.cells (stmC L11.zeroM) 38)) := by
  have hb := below_new w (.cells (bloC b P T) 28)
  refine ⟨(Blk.new w _ _).alloc _, ?_, hb.alloc hb.size _⟩
  have := Blk.new (w.alloc (.cells (bloC b P T) 28)) 38 (stmC L11.zeroM)
  simpa using this
set_option maxHeartbeats 1000000 in
set_option maxRecDepth 100000 in
theorem proposal_any (n : Int) (b : Blo) (A : Option Addr) (k c : Nat) (B : Option Addr) (m d : Nat) (w : World) : Calls Tryd.prog 12 #[.int .i64 n, .agg (bloC b (.slice A k c) (.slice B m d))] w (gives (.agg (stmC (stmP n b))) w) := by
  have hZ := Lib.hid (pro_mk w b (.slice A k c) (.slice B m d))
  go_enter Tryd.func12, Tryd.ntmps12
  go_upto_region 1 with fail
  refine name_world (fun w1 hw1 => ?_)
  have hA : Blk w1 w.heap.size 28 (bloC b (.slice A k c) (.slice B m d)) ∧ Blk w1 (w.heap.size + 1) 38 (stmC L11.zeroM) ∧ Below w.heap.size w w1 := by rw [hw1]; exact hZ.out
  clear hw1 hZ
  obtain ⟨k0, z0, hb⟩ := hA
  have c0 : w1.cell? ⟨w.heap.size, 0, none⟩ = some (.int .i64 b.view) := k0.cell 0
  have c1 : w1.cell? ⟨w.heap.size, 1, none⟩ = some (.int .i64 b.round) := k0.cell 1
  have c2 : w1.cell? ⟨w.heap.size, 2, none⟩ = some (.int .i64 b.height) := k0.cell 2
  have c3 : w1.cell? ⟨w.heap.size, 3, none⟩ = some (.int .i64 b.author) := k0.cell 3
  go_wp2_with (first
    | (refine wpList_build rfl _ _ rfl #[(0, .int .i64 1), (1, .int .i64 n), (2, .int .i64 b.view), (3, .int .i64 b.round), (4, .int .i64 b.height), (5, .int .i64 b.author)] rfl (build_pr _ _ _ _ _ _) ?_)
    | (refine wpList_store_row rfl _ _ _ rfl (w.heap.size + 1) (stmC (stmP n b)) rfl rfl _ _ z0 stmInfo rfl (stmC_ones _) ?_))
  (try simp only [Exit.inBlock, Exit.then])
  refine bodyPost_ret (v := .agg (stmC (stmP n b))) (results_row rfl _ _ (w.heap.size + 1) rfl _ _ _ _ (blk_setRow z0) Tryd.underlying38 rfl stmInfo) rfl ?_
  exact ⟨rfl, below_setRow hb (Nat.le_succ _)⟩
end Go.Proofs.YtkjkkbionlmohaaDoor
