/-
  The chapter's examples hold.
-/
import Derived.Test.YtkjkkbionlmohaaCmp
set_option linter.unusedSimpArgs false
set_option linter.unusedVariables false
namespace Go.Proofs.Ytkjkkbionlmohaa
open Go.RowKit Go.Lib

/-- A store of a whole struct into the block that was laid last, its number named. -/
theorem wpList_store_last {P : Program} {ops : Array Oper} {rest : List Oper} {o : Oper} {a : Act} {Q : Exit → Act → World → Prop} (hw : Region.wanted o (yielded ops a.tmps) = true) (ty : TypeId) (x y : Operand) (ho : o.op = .store ty x y) (w0 : World) (g : Nat) (hg : g = w0.heap.size) (cells : Array Value) (hx : a.eval x = .pointer (some ⟨g, 0, none⟩)) (hy : a.eval y = .agg cells)
    (t : TypeId) (old : Array Value) (hi : (P.info? ty).map (·.size) = some cells.size) (hold : old.size = cells.size) (h1 : cells.all (·.oneCell') = true)
    (h : wpList P ops Q rest (a.put o.dst undef) (w0.alloc (.cells cells t))) : wpList P ops Q (o :: rest) a (w0.alloc (.cells old t)) := by
  subst hg
  exact wpList_store_new hw ty x y ho w0 cells hx hy t old hi hold h1 h
abbrev exA : Crt := ⟨2, 1, 3, 9, 1, 0, 7, 0⟩
abbrev exB : Crt := ⟨1, 1, 3, 20, 0, 0, 7, 0⟩
abbrev exC : Crt := ⟨1, 1, 4, 10, 0, 0, 7, 0⟩
abbrev exK : Crt := ⟨1, 0, 0, 0, 0, 0, 0, 0⟩
theorem exA_wf : exA.wf := by refine ⟨?_, ?_, ?_, ?_, ?_, ?_, ?_, ?_⟩ <;> simp [inI, inU]
theorem exK_wf : exK.wf := by refine ⟨?_, ?_, ?_, ?_, ?_, ?_, ?_, ?_⟩ <;> simp [inI, inU]
theorem build_exA (w : World) : (Instr.build 24 #[(0, .int .i64 2), (1, .int .i64 1), (2, .int .i64 3), (3, .int .i64 9), (4, .int .i64 1), (6, .int .u32 7)]).run Try.prog w = .ok (.agg (crtC exA)) w := run_build w _ _ _ (by kernel_rfl)
theorem build_exB (w : World) : (Instr.build 24 #[(0, .int .i64 1), (1, .int .i64 1), (2, .int .i64 3), (3, .int .i64 20), (6, .int .u32 7)]).run Try.prog w = .ok (.agg (crtC exB)) w := run_build w _ _ _ (by kernel_rfl)
theorem build_exC (w : World) : (Instr.build 24 #[(0, .int .i64 1), (1, .int .i64 1), (2, .int .i64 4), (3, .int .i64 10), (6, .int .u32 7)]).run Try.prog w = .ok (.agg (crtC exC)) w := run_build w _ _ _ (by kernel_rfl)
theorem build_exK (w : World) : (Instr.build 24 #[(0, .int .i64 1)]).run Try.prog w = .ok (.agg (crtC exK)) w := run_build w _ _ _ (by kernel_rfl)
theorem al_ab (w : World) : Calls Try.prog 18 #[.agg (crtC exA), .agg (crtC exB)] w (gives (.int .i64 1) w) := cmp_any exA exB w
theorem al_ac (w : World) : Calls Try.prog 18 #[.agg (crtC exA), .agg (crtC exC)] w (gives (.int .i64 (-1)) w) := cmp_any exA exC w
theorem al_ka (w : World) : Calls Try.prog 13 #[.agg (crtC exA)] w (gives (.int .i64 0) w) := check_any exA w exA_wf
theorem al_kz (w : World) : Calls Try.prog 13 #[.agg (crtC zeroC)] w (gives (.int .i64 0) w) := check_any zeroC w zeroC_wf
theorem al_kk (w : World) : Calls Try.prog 13 #[.agg (crtC exK)] w (gives (.int .i64 110) w) := check_any exK w exK_wf
theorem al_en (w : World) : Calls Try.prog 11 #[.agg (crtC exA)] w (gives (.bool false) w) := endorsed_any exA w
/-- The three boxes. -/
structure ExAt (w W : World) : Prop where
  ba : L3.Blk W w.heap.size 24 (crtC exA)
  bb : L3.Blk W (w.heap.size + 1) 24 (crtC exB)
  bc : L3.Blk W (w.heap.size + 1 + 1) 24 (crtC exC)
  bw : Below w.heap.size w W
theorem ExAt.below {w W W' : World} (h : ExAt w W) (hb : Below W.heap.size W W') : ExAt w W' := ⟨h.ba.below hb h.ba.lt, h.bb.below hb h.bb.lt, h.bc.below hb h.bc.lt, nxt h.bw hb⟩
theorem ex_mk (w : World) : ExAt w (((w.alloc (.cells (crtC exA) 24)).alloc (.cells (crtC exB) 24)).alloc (.cells (crtC exC) 24)) := by
  obtain ⟨h1, h2, h3⟩ := arg_mk w exA exB
  refine ⟨h1.alloc _, h2.alloc _, ?_, h3.alloc h3.size _⟩
  have := blk_new ((w.alloc (.cells (crtC exA) 24)).alloc (.cells (crtC exB) 24)) 24 (crtC exC)
  simpa using this
set_option maxHeartbeats 2000000 in
set_option maxRecDepth 100000 in
theorem alive_any (w : World) : Calls Try.prog 6 #[] w (gives (.bool true) w) := by
  have hZ := Lib.hid (ex_mk w)
  go_enter Try.func6, Try.ntmps6
  go_upto_region 4 with (first
    | (refine wpList_build rfl _ _ rfl #[(0, .int .i64 2), (1, .int .i64 1), (2, .int .i64 3), (3, .int .i64 9), (4, .int .i64 1), (6, .int .u32 7)] rfl (build_exA _) ?_)
    | (refine wpList_build rfl _ _ rfl #[(0, .int .i64 1), (1, .int .i64 1), (2, .int .i64 3), (3, .int .i64 20), (6, .int .u32 7)] rfl (build_exB _) ?_)
    | (refine wpList_build rfl _ _ rfl #[(0, .int .i64 1), (1, .int .i64 1), (2, .int .i64 4), (3, .int .i64 10), (6, .int .u32 7)] rfl (build_exC _) ?_)
    | (refine wpList_store_new rfl _ _ _ rfl _ (crtC exA) rfl rfl _ _ crtInfo rfl (crtC_ones _) ?_)
    | (refine wpList_store_last rfl _ _ _ rfl (w.alloc _) (w.heap.size + 1) (by simp) (crtC exB) rfl rfl _ _ crtInfo rfl (crtC_ones _) ?_)
    | (refine wpList_store_last rfl _ _ _ rfl ((w.alloc _).alloc _) (w.heap.size + 1 + 1) (by simp) (crtC exC) rfl rfl _ _ crtInfo rfl (crtC_ones _) ?_))
  refine name_world (fun w1 hw1 => ?_)
  have hA : ExAt w w1 := by rw [hw1]; exact hZ.out
  clear hw1 hZ
  go_wp2_with (first
    | (refine wpList_row_at rfl _ _ rfl w.heap.size rfl _ _ _ _ hA.ba Try.underlying24 rfl crtInfo ?_)
    | (refine wpList_row_at rfl _ _ rfl (w.heap.size + 1) rfl _ _ _ _ hA.bb Try.underlying24 rfl crtInfo ?_)
    | (go_at_call 18; (with_reducible refine (al_ab _).mono ?_); unfold gives; rintro e w2 ⟨rfl, hb2⟩; have hB := hA.below hb2)
    | (refine wpList_row_at rfl _ _ rfl w.heap.size rfl _ _ _ _ hB.ba Try.underlying24 rfl crtInfo ?_)
    | (refine wpList_row_at rfl _ _ rfl (w.heap.size + 1 + 1) rfl _ _ _ _ hB.bc Try.underlying24 rfl crtInfo ?_)
    | (go_at_call 18; (with_reducible refine (al_ac _).mono ?_); unfold gives; rintro e w3 ⟨rfl, hb3⟩; have hC := hB.below hb3)
    | (refine wpList_row_at rfl _ _ rfl w.heap.size rfl _ _ _ _ hC.ba Try.underlying24 rfl crtInfo ?_)
    | (refine wpList_build rfl _ _ rfl #[] rfl (build_zero _) ?_)
    | (refine wpList_build rfl _ _ rfl #[(0, .int .i64 1)] rfl (build_exK _) ?_)
    | (go_at_call 13; (with_reducible refine (al_ka _).mono ?_); unfold gives; rintro e w4 ⟨rfl, hb4⟩; have hD := hC.below hb4)
    | (go_at_call 13; refine (al_kz _).mono ?_; unfold gives; rintro e w5 ⟨rfl, hb5⟩; have hE := hD.below hb5)
    | (go_at_call 13; refine (al_kk _).mono ?_; unfold gives; rintro e w6 ⟨rfl, hb6⟩; have hF := hE.below hb6)
    | (refine wpList_row_at rfl _ _ rfl w.heap.size rfl _ _ _ _ hF.ba Try.underlying24 rfl crtInfo ?_)
    | (go_at_call 11; (with_reducible refine (al_en _).mono ?_); unfold gives; rintro e w7 ⟨rfl, hb7⟩; have hG := hF.below hb7))
  go_ret
  exact ⟨rfl, hG.bw⟩
end Go.Proofs.Ytkjkkbionlmohaa
