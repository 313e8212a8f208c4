/-
  Which certificate is higher, by the code.
-/
import Derived.Test.YtkjkkbionlmohaaCheckC
import Derived.Test.YtkjkkbionlmohaaShelf
import Derived.Deep.CutRange
set_option linter.unusedSimpArgs false
set_option linter.unusedVariables false
namespace Go.Proofs.Ytkjkkbionlmohaa
open Go.RowKit Go.Lib

section
variable {P : Program} {ops : Array Oper} {Q : Exit → Act → World → Prop} {md : Region.Mode} {S : World → Prop} {R : List Nat}
/-- Three may come up. -/
theorem wpK_three (i j k : Nat) {oi oj ok : Oper} {f : Nat} {listed : Array Bool} {a : Act} {w : World} (hr : Region.ready md ops listed = [i, j, k]) (hi : ops[i]? = some oi) (hj : ops[j]? = some oj) (hk : ops[k]? = some ok)
    (h1 : wpList P ops (stepQ Q fun a' w' => (lateB md ops R i = false → S w') ∧ wpK P md ops Q S R f (listed.setIfInBounds i true) a' w') [oi] a w)
    (h2 : wpList P ops (stepQ Q fun a' w' => (lateB md ops R j = false → S w') ∧ wpK P md ops Q S R f (listed.setIfInBounds j true) a' w') [oj] a w)
    (h3 : wpList P ops (stepQ Q fun a' w' => (lateB md ops R k = false → S w') ∧ wpK P md ops Q S R f (listed.setIfInBounds k true) a' w') [ok] a w) : wpK P md ops Q S R (f + 1) listed a w :=
  ⟨fun h0 => (by rw [hr] at h0; cases h0), fun m hm => by
    rw [hr] at hm
    have : m = i ∨ m = j ∨ m = k := by simpa using hm
    rcases this with rfl | rfl | rfl
    · exact wpOp_of_list hi h1
    · exact wpOp_of_list hj h2
    · exact wpOp_of_list hk h3⟩
end
/-- Fallback stands above. -/
def upV (c : Crt) : Int := if c.kind = 2 then 1 else 0
/-- A rank's three numbers. -/
def rkC (c : Crt) : Array Value := #[.int .i64 c.view, .int .i64 (upV c), .int .i64 c.round]
def zeroR : Array Value := #[.int .i64 0, .int .i64 0, .int .i64 0]
theorem rkC_ones (c : Crt) : (rkC c).all (·.oneCell') = true := by kernel_rfl
theorem rkInfo : (Try.prog.info? 54).map (·.size) = some 3 := by kernel_rfl
theorem build_rk (v k r : Int) (w : World) : (Instr.build 54 #[(0, .int .i64 v), (1, .int .i64 k), (2, .int .i64 r)]).run Try.prog w = .ok (.agg #[.int .i64 v, .int .i64 k, .int .i64 r]) w := run_build w _ _ _ (by kernel_rfl)
set_option maxHeartbeats 1000000 in
set_option maxRecDepth 100000 in
theorem rank_any (c : Crt) (w : World) : Calls Try.prog 28 #[.agg (crtC c)] w (gives (.agg (rkC c)) w) := by
  have hb := below_box (w := w) 24 c
  have hZ : Hid (L3.Blk ((w.alloc (.cells (crtC c) 24)).alloc (.cells zeroR 54)) w.heap.size 24 (crtC c) ∧ L3.Blk ((w.alloc (.cells (crtC c) 24)).alloc (.cells zeroR 54)) (w.heap.size + 1) 54 zeroR ∧ Below w.heap.size w ((w.alloc (.cells (crtC c) 24)).alloc (.cells zeroR 54))) := by
    refine Lib.hid ⟨(box_new w _ c).alloc _, ?_, hb.alloc hb.size _⟩
    have := L3.Blk.new (w.alloc (.cells (crtC c) 24)) 54 zeroR
    simpa using this
  clear hb
  go_enter Try.func28, Try.ntmps28
  go_upto_region 1 with fail
  refine name_world (fun w1 hw1 => ?_)
  have hA : L3.Blk w1 w.heap.size 24 (crtC c) ∧ L3.Blk w1 (w.heap.size + 1) 54 zeroR ∧ Below w.heap.size w w1 := by rw [hw1]; exact hZ.out
  clear hw1 hZ
  obtain ⟨k0, z0, hb⟩ := hA
  obtain ⟨c0, c1, c2, c3, c4, c5, c6, c7⟩ := box_of k0
  rcases Classical.em (c.kind = 2) with h2 | h2
  · have hu : upV c = 1 := if_pos h2
    have hk : (c.kind == 2) = true := by simpa using h2
    have HU : Hid (rkC c = #[.int .i64 c.view, .int .i64 1, .int .i64 c.round]) := Lib.hid (by unfold rkC; rw [hu])
    clear h2 hu
    go_wp2_with (first
      | (refine wpList_build rfl _ _ rfl #[(0, .int .i64 c.view), (1, .int .i64 1), (2, .int .i64 c.round)] rfl (build_rk _ _ _ _) ?_)
      | (refine wpList_store_row rfl _ _ _ rfl (w.heap.size + 1) #[.int .i64 c.view, .int .i64 1, .int .i64 c.round] rfl rfl _ _ z0 rkInfo rfl (by kernel_rfl) ?_))
    (try simp only [Exit.inBlock, Exit.then])
    refine bodyPost_ret (v := .agg #[.int .i64 c.view, .int .i64 1, .int .i64 c.round]) (results_row rfl _ _ (w.heap.size + 1) rfl _ _ _ _ (blk_setRow z0) Try.underlying54 rfl rkInfo) rfl ?_
    exact ⟨by rw [HU.out], below_setRow hb (by omega)⟩
  · have hu : upV c = 0 := if_neg h2
    have hk : (c.kind == 2) = false := by simpa using h2
    have HU : Hid (rkC c = #[.int .i64 c.view, .int .i64 0, .int .i64 c.round]) := Lib.hid (by unfold rkC; rw [hu])
    clear h2 hu
    go_wp2_with (first
      | (refine wpList_build rfl _ _ rfl #[(0, .int .i64 c.view), (1, .int .i64 0), (2, .int .i64 c.round)] rfl (build_rk _ _ _ _) ?_)
      | (refine wpList_store_row rfl _ _ _ rfl (w.heap.size + 1) #[.int .i64 c.view, .int .i64 0, .int .i64 c.round] rfl rfl _ _ z0 rkInfo rfl (by kernel_rfl) ?_))
    (try simp only [Exit.inBlock, Exit.then])
    refine bodyPost_ret (v := .agg #[.int .i64 c.view, .int .i64 0, .int .i64 c.round]) (results_row rfl _ _ (w.heap.size + 1) rfl _ _ _ _ (blk_setRow z0) Try.underlying54 rfl rkInfo) rfl ?_
    exact ⟨by rw [HU.out], below_setRow hb (by omega)⟩
/-- Which is higher. -/
def cmpV (a b : Crt) : Int := if compareInt a.view b.view ≠ 0 then compareInt a.view b.view else if compareInt (upV a) (upV b) ≠ 0 then compareInt (upV a) (upV b) else compareInt a.round b.round
/-- The arguments' boxes. -/
structure ArgAt (w : World) (a b : Crt) (W : World) : Prop where
  ba : L3.Blk W w.heap.size 24 (crtC a)
  bb : L3.Blk W (w.heap.size + 1) 24 (crtC b)
  bw : Below w.heap.size w W
theorem ArgAt.below {w : World} {a b : Crt} {W W' : World} (h : ArgAt w a b W) (hb : Below W.heap.size W W') : ArgAt w a b W' := ⟨h.ba.below hb h.ba.lt, h.bb.below hb h.bb.lt, nxt h.bw hb⟩
theorem ArgAt.row {w : World} {a b : Crt} {W : World} (h : ArgAt w a b W) {g : Nat} (hg : w.heap.size + 1 < g) (cs : Array Value) : ArgAt w a b (W.setRow g cs) := ⟨blk_far h.ba (by omega), blk_far h.bb (by omega), below_setRow h.bw (by omega)⟩
theorem below_new {W : World} (o : Obj) : Below W.heap.size W (W.alloc o) := (Below.refl _ _).alloc (Nat.le_refl _) o
theorem blk_new (W : World) (ty : TypeId) (cs : Array Value) : L3.Blk (W.alloc (.cells cs ty)) W.heap.size ty cs := L3.Blk.new _ _ _
theorem arg_mk (w : World) (a b : Crt) : ArgAt w a b ((w.alloc (.cells (crtC a) 24)).alloc (.cells (crtC b) 24)) := by
  have hb := below_box (w := w) 24 a
  refine ⟨(box_new w _ a).alloc _, ?_, hb.alloc hb.size _⟩
  have := box_new (w.alloc (.cells (crtC a) 24)) 24 b
  simpa using this
/-- The ranks' arrays. -/
structure RkAt (w : World) (x y : Array Value) (gx gy : Nat) (W : World) : Prop where
  bx : L3.Blk W gx 54 x
  by_ : L3.Blk W gy 54 y
  bw : Below w.heap.size w W
theorem RkAt.drew {w : World} {x y : Array Value} {gx gy : Nat} {W : World} (h : RkAt w x y gx gy W) : RkAt w x y gx gy W.drew := ⟨h.bx, h.by_, h.bw.drew⟩
theorem cmp_rng (x y : Int) : compareInt x y = -1 ∨ compareInt x y = 0 ∨ compareInt x y = 1 := by unfold compareInt; split <;> (try split) <;> simp
