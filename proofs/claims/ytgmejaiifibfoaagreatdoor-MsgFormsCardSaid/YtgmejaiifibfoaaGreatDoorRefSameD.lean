/-
  Are two blocks the same: the parents differ.
-/
import Derived.Test.YtgmejaiifibfoaaGreatDoorR1
set_option linter.unusedSimpArgs false
set_option linter.unusedVariables false
set_option maxRecDepth 10000
namespace Go.Proofs.YtgmejaiifibfoaaGreatDoor
open Go.RowKit Go.Lib
open L3 (Blk Reads)
open L11 (Crt zeroC crtL crtC mayV okW crtInfo crtC_ones eqlC neqC wpList_binop wpQuiet_fn)

set_option maxHeartbeats 4000000 in
set_option maxRecDepth 100000 in
theorem refsame_5 (a b : Blo) (A : Option Addr) (c : Nat) (B : Option Addr) (d : Nat) (A' : Option Addr) (c' : Nat) (B' : Option Addr) (d' : Nat) (w : World) (ha : a.wf) (hb : b.wf)
    (pa : Rd tmL 10 w A a.proof) (ta : Rd txL 7 w B a.txs) (pb : Rd tmL 10 w A' b.proof) (tb : Rd txL 7 w B' b.txs)
    (a1 : decide (a.view = b.view) = true) (a2 : decide (a.round = b.round) = true) (a3 : decide (a.height = b.height) = true) (a4 : decide (a.author = b.author) = true) (a5 : decide (a.par = b.par) = false) :
    Calls Tryz.prog 35 #[.agg (bloC a (.slice A a.proof.length c) (.slice B a.txs.length d)), .agg (bloC b (.slice A' b.proof.length c') (.slice B' b.txs.length d'))] w (gives (.bool (sameV a b)) w) := by
  replace a1 := Lib.hid a1
  replace a2 := Lib.hid a2
  replace a3 := Lib.hid a3
  replace a4 := Lib.hid a4
  replace a5 := Lib.hid a5
  have F0 := Lib.hid (twoB_mk (c := c) (d := d) (c' := c') (d' := d') pa ta pb tb)
  have HT := Lib.hid (fun W r (h : TwoB w a b A c B d A' c' B' d' W) hr => refsame10_is B d a.txs B' d' b.txs r W ha.txs hb.txs h.ta h.tb (by have := ha.nt; omega) (by have := hb.nt; omega) hr)
  have HC := Lib.hid (fun W => neqC ha.par hb.par W)
  have HWF := Lib.hid (And.intro ha.proof hb.proof)
  have hnp := ha.np
  have e := same_parts a b
  clear ha hb pa ta pb tb
  go_enter Tryz.func35, Tryz.ntmps35
  go_upto_region 1 with fail
  refine name_world (fun w0 hw0 => ?_)
  have hA : TwoB w a b A c B d A' c' B' d' w0 := by rw [hw0]; exact F0.out
  clear hw0 F0
  obtain ⟨⟨x0, x1, x2, x3, x12, x13⟩, y0, y1, y2, y3, y12, y13⟩ := hA.cells
  obtain ⟨px, py⟩ := hA.pars
  have hbw := hA.bw
  replace a1 := a1.out
  replace a2 := a2.out
  replace a3 := a3.out
  replace a4 := a4.out
  replace a5 := a5.out
  rw [a1, a2, a3, a4, a5] at e
  have E := Lib.hid e
  obtain ⟨q1, _⟩ := beq_d a1
  obtain ⟨q2, _⟩ := beq_d a2
  obtain ⟨q3, _⟩ := beq_d a3
  obtain ⟨q4, _⟩ := beq_d a4
  have HC2 : Hid (∀ W, (binOp .neq 24 (.agg (crtC a.par)) (.agg (crtC b.par))).run Tryz.prog W = .ok (.bool true) W) := Lib.hid (fun W => by rw [HC.out W, a5]; rfl)
  clear e a1 a2 a3 a4 a5 HT HC hA HWF
  go_wp2_with (first
    | (refine wpList_cells_at ?hw _ _ rfl ⟨w.heap.size, 4, none⟩ rfl (crtL a.par) _ px Tryz.underlying24 rfl crtInfo ?_
       case hw => rfl
       (try simp only [Act.put, List.setIfInBounds_toArray, List.set_cons_zero, List.set_cons_succ]))
    | (refine wpList_cells_at ?hw _ _ rfl ⟨w.heap.size + 1, 4, none⟩ rfl (crtL b.par) _ py Tryz.underlying24 rfl crtInfo ?_
       case hw => rfl
       (try simp only [Act.put, List.setIfInBounds_toArray, List.set_cons_zero, List.set_cons_succ]))
    | (refine wpList_binop ?hw _ _ _ _ _ rfl (crtC a.par) (crtC b.par) rfl rfl (by kernel_rfl) (HC2.out _) ?_
       case hw => rfl
       (try simp only [Act.put, List.setIfInBounds_toArray, List.set_cons_zero, List.set_cons_succ])))
  go_ret
  exact ⟨by rw [E.out]; rfl, hbw⟩
end Go.Proofs.YtgmejaiifibfoaaGreatDoor
