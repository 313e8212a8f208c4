/-
  The chapter's example holds; what no pool answers: the walks.
-/
import Derived.Test.YtohkjleppohinaaDoorAdds
import Derived.Test.YtohkjleppohinaaDoorDrop
set_option linter.unusedSimpArgs false
set_option linter.unusedVariables false
set_option maxRecDepth 10000
namespace Go.Proofs.YtohkjleppohinaaDoor
open Go.RowKit Go.Lib
open L3 (Blk Reads block_of_add add_of_add)
open L6 (Turn moreB fresh From In)

set_option maxHeartbeats 2000000 in
set_option maxRecDepth 100000 in
/-- What can't wait changes nothing. -/
theorem add_no {w : World} {S : Nat → Prop} {g : Nat} {most : Int} {L : List Txx} (h : Pl w S g most L) (t : Txx) (ht : t.wf 1000) (hT : Tabs w) (k : Int) (hk : addE most L t = k) (hk0 : k ≠ 0) :
    Calls Tryd.prog 10 #[.pointer (some ⟨g, 0, none⟩), .agg (txC t)] w (gives (.int .i64 k) w) := by
  have hyb := box_new w 35 t
  have hb0 : Below w.heap.size w (w.alloc (.cells (txC t) 35)) := below_box _ t
  have HRF := Lib.hid (refuses_any (h.below hb0) t ht (hT.kept hb0))
  rw [hk] at HRF
  have hne : (k == 0) = false := by simpa using hk0
  clear hk hT h
  go_enter Tryd.func10, Tryd.ntmps10
  go_wp2_with (first
    | (refine wpList_row_at rfl _ _ rfl w.heap.size rfl _ _ _ _ hyb Tryd.underlying35 rfl (by kernel_rfl) ?_)
    | (go_at_call 23; refine HRF.out.mono ?_; unfold gives; rintro e w1 ⟨rfl, hb1⟩)
    | go_in)
  go_ret
  exact ⟨rfl, nxt hb0 hb1⟩
/-- A slice that is built behind a guard. -/
theorem wpList_buildSlice_met {P : Program} {ops : Array Oper} {rest : List Oper} {o : Oper} {a : Act} {w w' : World} {Q : Exit → Act → World → Prop} (hgd : Region.wanted o (yielded ops a.tmps) = true) (t : TypeId) (n : Nat) (parts : Array (Nat × Operand)) (ho : o.op = .buildSlice t n parts) (ps : Array (Nat × Value))
    (hp : (parts.toList.map fun p => (p.1, a.eval p.2)) = ps.toList) {v : Value} (hrun : (Instr.buildSlice t n ps).run P w = .ok v w')
    (h : wpList P ops Q rest (a.put o.dst v) w') : wpList P ops Q (o :: rest) a w := by
  refine wpList_wanted hgd fun _ hK => ?_
  have hp' : (parts.map fun p => (p.1, a.eval p.2)) = ps := by apply Array.toList_inj.1; rw [Array.toList_map]; exact hp
  subst hp'
  unfold Oper.wp
  simp only [execOp, ho, Sem.run_bind, hrun, Result.andThen_ok, Sem.run_pure]
  exact hK _ _ h
abbrev exT : Txx := ⟨1, [97], [98], [], [], 1, 1⟩
abbrev exU : Txx := ⟨1, [97], [98], [], [], 1, 2⟩
theorem ex_add : addE 1 [] exT = 0 := by decide +kernel
theorem ex_full : addE 1 [exT] exU = 101 := by decide +kernel
theorem ex_there : addE 1 [exT] exT = 100 := by decide +kernel
theorem ex_list : addL 1 [] exT = [exT] := by decide +kernel
theorem ex_wfT : exT.wf 1000 := by refine ⟨?_, ?_, ?_, ?_, ?_, ?_, ?_⟩ <;> simp [inI]
theorem ex_wfU : exU.wf 1000 := by refine ⟨?_, ?_, ?_, ?_, ?_, ?_, ?_⟩ <;> simp [inI]
theorem build_exT (w : World) : (Instr.build 35 #[(0, .int .i64 1), (1, .string { data := #[97] }), (2, .string { data := #[98] }), (5, .int .i64 1), (6, .int .i64 1)]).run Tryd.prog w = .ok (.agg (txC exT)) w := run_build w _ _ _ (by kernel_rfl)
theorem build_exU (w : World) : (Instr.build 35 #[(0, .int .i64 1), (1, .string { data := #[97] }), (2, .string { data := #[98] }), (5, .int .i64 1), (6, .int .i64 2)]).run Tryd.prog w = .ok (.agg (txC exU)) w := run_build w _ _ _ (by kernel_rfl)
set_option maxHeartbeats 2000000 in
set_option maxRecDepth 100000 in
theorem alive_any (w : World) (hT : Tabs w) : Calls Tryd.prog 6 #[] w (gives (.bool true) w) := by
  have HT := Lib.hid (fun w' (hb : Below w.heap.size w w') => hT.kept hb)
  have HN := Lib.hid (new_ok 1 w (by omega) (by omega))
  clear hT
  go_enter Tryd.func6, Tryd.ntmps6
  go_upto_region 3 with (first
    | (go_at_call 7; refine HN.out.mono ?_; rintro e w1 ⟨rfl, hp1, hb1⟩)
    | (refine wpList_build rfl _ _ rfl #[(0, .int .i64 1), (1, .string { data := #[97] }), (2, .string { data := #[98] }), (5, .int .i64 1), (6, .int .i64 1)] rfl (build_exT _) ?_)
    | (refine wpList_store_new rfl _ _ _ rfl _ (txC exT) rfl rfl _ _ (by kernel_rfl) rfl (txC_ones _) ?_)
    | go_in)
  refine name_world (fun wa hwa => ?_)
  have ka : Blk wa w1.heap.size 35 (txC exT) := by rw [hwa]; exact Blk.new _ _ _
  have hba : Below w1.heap.size w1 wa := by rw [hwa]; exact (Below.refl _ _).alloc (Nat.le_refl _) _
  have hsa : wa.heap.size = w1.heap.size + 1 := by rw [hwa]; simp
  clear hwa
  have HSA := Lib.hid hsa
  clear hsa
  go_upto_region 4 with (first
    | (refine wpList_build rfl _ _ rfl #[(0, .int .i64 1), (1, .string { data := #[97] }), (2, .string { data := #[98] }), (5, .int .i64 1), (6, .int .i64 2)] rfl (build_exU _) ?_)
    | (refine wpList_store_new rfl _ _ _ rfl _ (txC exU) rfl rfl _ _ (by kernel_rfl) rfl (txC_ones _) ?_)
    | go_in)
  refine name_world (fun wt hwt => ?_)
  have hbU : Below wa.heap.size wa wt := by rw [hwt]; exact (Below.refl _ _).alloc (Nat.le_refl _) _
  have k1 := ka.below hbU ka.lt
  have k2 : Blk wt wa.heap.size 35 (txC exU) := by rw [hwt]; exact Blk.new _ _ _
  clear hwt
  have hbT : Below w1.heap.size w1 wt := nxt hba hbU
  have hbW : Below w.heap.size w wt := nxt hb1 hbT
  have hpt := hp1.below hbT
  have HA := Lib.hid (add_any hpt exT ex_wfT (HT.out _ hbW))
  rw [ex_add, ex_list] at HA
  have hfr : ∀ k, fresh w w1 k → w.heap.size ≤ k := fun k h => h.1
  clear ka hp1 hpt
  go_wp2_with (first
    | (refine wpList_row_at rfl _ _ rfl w1.heap.size rfl _ _ _ _ m4 Tryd.underlying35 rfl (by kernel_rfl) ?_)
    | (refine wpList_row_at rfl _ _ rfl wa.heap.size rfl _ _ _ _ m3 Tryd.underlying35 rfl (by kernel_rfl) ?_)
    | (refine wpList_row_at rfl _ _ rfl w1.heap.size rfl _ _ _ _ k1 Tryd.underlying35 rfl (by kernel_rfl) ?_)
    | (go_at_call 10; first
        | ((with_reducible refine HA.out.mono ?_); rintro e w2 ⟨rfl, hp2, ht2⟩
           have m2 := ht2.blk k1 (fun h => absurd h.2 (Nat.lt_irrefl _))
           have m3 := ht2.blk k2 (fun h => by have := h.2; have := HSA.out; omega)
           have hb2 := L6.nxtT hbW ht2 hfr
           have HA2 := Lib.hid (add_no hp2 exU ex_wfU (HT.out _ hb2) _ ex_full (by decide))
           clear k1 k2)
        | ((with_reducible refine HA2.out.mono ?_); unfold gives; rintro e w3 ⟨rfl, hb3⟩
           have hp3 := hp2.below hb3
           have m4 := m2.below hb3 m2.lt
           have HA3 := Lib.hid (add_no hp3 exT ex_wfT (HT.out _ (nxt hb2 hb3)) _ ex_there (by decide))
           clear m2 m3)
        | ((with_reducible refine HA3.out.mono ?_); unfold gives; rintro e w4 ⟨rfl, hb4⟩
           have hp4 := hp3.below hb4
           have HL := Lib.hid (len_any hp4)))
    | (go_at_call 19; refine HL.out.mono ?_; unfold gives; rintro e w5 ⟨rfl, hb5⟩)
    | go_in)
  go_ret
  exact ⟨rfl, nxt (nxt (nxt hb2 hb3) hb4) hb5⟩
set_option maxHeartbeats 2000000 in
set_option maxRecDepth 100000 in
theorem nil_any (t : Txx) (n : Int) (w : World) (hT : Tabs w) : Calls Tryd.prog 5 #[.agg (txC t), .int .i64 n] w (gives (.bool true) w) := by
  have hb0 : Below w.heap.size w (w.alloc (.cells (txC t) 35)) := below_box _ t
  have k0 := box_new w 35 t
  have HA := Lib.hid (alive_any _ (hT.kept hb0))
  clear hT
  go_enter Tryd.func5, Tryd.ntmps5
  go_wp2_with (first
    | (go_at_call 6; refine HA.out.mono ?_; unfold gives; rintro e w1 ⟨rfl, hb1⟩
       have k1 := k0.below hb1 k0.lt
       clear k0)
    | (refine wpList_row_at rfl _ _ rfl w.heap.size rfl _ _ _ _ k3 Tryd.underlying35 rfl (by kernel_rfl) ?_)
    | (refine wpList_row_at rfl _ _ rfl w.heap.size rfl _ _ _ _ k1 Tryd.underlying35 rfl (by kernel_rfl) ?_)
    | (go_at_call 10; refine (add_nil t _).mono ?_; unfold gives; rintro e w2 ⟨rfl, hb2⟩
       have k2 := k1.below hb2 k1.lt
       clear k1)
    | (go_at_call 12; refine (batch_nil n none 0 0 _).mono ?_; unfold gives; rintro e w3 ⟨rfl, hb3⟩
       have k3 := k2.below hb3 k2.lt
       clear k2)
    | (refine wpList_buildSlice_met rfl _ _ _ rfl #[(0, .agg (txC t))] rfl (slice_tx t w3) ?_
       have k4 := k3.alloc (.cells (txC t) 35)
       have hb3a : Below w3.heap.size w3 (w3.alloc (.cells (txC t) 35)) := below_box _ t)
    | (go_at_call 15; refine (drop_nil _ _ _ _).mono ?_; unfold gives; rintro e w4 ⟨rfl, hb4⟩
       have k5 := k4.below hb4 k4.lt
       obtain ⟨d0, d1, d2, d3, d4, d5, d6⟩ := box_of k5)
    | (go_at_call 17; refine (past_nil _ _ _).mono ?_; unfold gives; rintro e w5 ⟨rfl, hb5⟩)
    | (go_at_call 18; refine (all_nil _).mono ?_; unfold gives; rintro e w6 ⟨rfl, hb6⟩)
    | (go_at_call 19; refine (len_nil _).mono ?_; unfold gives; rintro e w7 ⟨rfl, hb7⟩)
    | go_in)
  go_ret
  exact ⟨rfl, nxt (nxt (nxt (nxt (nxt (nxt (nxt (nxt hb0 hb1) hb2) hb3) hb3a) hb4) hb5) hb6) hb7⟩
end Go.Proofs.YtohkjleppohinaaDoor
