import Derived.Test.YtomaaidhmccngaaGreatDoorL11
import Derived.Test.YtomaaidhmccngaaGreatDoorShelf
set_option linter.unusedSimpArgs false
set_option linter.unusedVariables false
set_option maxRecDepth 100000
set_option maxHeartbeats 16000000
namespace Go.Proofs.YtomaaidhmccngaaGreatDoor.L11
open Go.RowKit Go.Lib
section
variable {P : Program} {ops : Array Oper} {Q : Exit -> Act -> World -> Prop} {md : Region.Mode} {S : World -> Prop} {R : List Nat}
theorem qie (i j k : Nat) {oi oj ok : Oper} {f : Nat} {listed : Array Bool} {a : Act} {w : World} (hr : Region.ready md ops listed = [i, j, k]) (hi : ops[i]? = some oi) (hj : ops[j]? = some oj) (hk : ops[k]? = some ok)
 (h1 : wpList P ops (stepQ Q fun a' w' => (lateB md ops R i = false -> S w') /\ wpK P md ops Q S R f (listed.setIfInBounds i true) a' w') [oi] a w)
 (h2 : wpList P ops (stepQ Q fun a' w' => (lateB md ops R j = false -> S w') /\ wpK P md ops Q S R f (listed.setIfInBounds j true) a' w') [oj] a w)
 (h3 : wpList P ops (stepQ Q fun a' w' => (lateB md ops R k = false -> S w') /\ wpK P md ops Q S R f (listed.setIfInBounds k true) a' w') [ok] a w) : wpK P md ops Q S R (f + 1) listed a w :=
 ⟨fun h0 => (by rw [hr] at h0; cases h0), fun m hm => by
  rw [hr] at hm
  have : m = i ∨ m = j ∨ m = k := by simpa using hm
  rcases this with rfl | rfl | rfl
  ·exact qb7 hi h1
  ·exact qb7 hj h2
  ·exact qb7 hk h3⟩
end
def upV (c : Crt) : Int := if c.kind = 2 then 1 else 0
def rkC (c : Crt) : Array Value := #[.int .i64 c.view, .int .i64 (upV c), .int .i64 c.round]
def zeroR : Array Value := #[.int .i64 0, .int .i64 0, .int .i64 0]
theorem qaA (c : Crt) : (rkC c).all (·.oneCell') = true := by kernel_rfl
theorem rkInfo : (Tryz.prog.info? 189).map (·.size) = some 3 := by kernel_rfl
theorem qiX (v k r : Int) (w : World) : (Instr.build 189 #[(0, .int .i64 v), (1, .int .i64 k), (2, .int .i64 r)]).run Tryz.prog w = .ok (.agg #[.int .i64 v, .int .i64 k, .int .i64 r]) w := run_build w _ _ _ (by kernel_rfl)
theorem qaW (c : Crt) (w : World) : Calls Tryz.prog 158 #[.agg (crtC c)] w (gives (.agg (rkC c)) w) := by
 have hb := qa9 (w := w) 29 c
 have hZ : Hid (L3.Blk ((w.alloc (.cells (crtC c) 29)).alloc (.cells zeroR 189)) w.heap.size 29 (crtC c) /\ L3.Blk ((w.alloc (.cells (crtC c) 29)).alloc (.cells zeroR 189)) (w.heap.size + 1) 189 zeroR /\ Below w.heap.size w ((w.alloc (.cells (crtC c) 29)).alloc (.cells zeroR 189))) := by
  refine hid ⟨(qa6 w _ c).alloc _, ?_, hb.alloc hb.size _⟩
  have := L3.Blk.new (w.alloc (.cells (crtC c) 29)) 189 zeroR
  simpa using this
 clear hb
 go_enter Tryz.func158, Tryz.ntmps158
 go_upto_region 1 with fail
 refine qab (fun w1 hw1 => ?_)
 have hA : L3.Blk w1 w.heap.size 29 (crtC c) /\ L3.Blk w1 (w.heap.size + 1) 189 zeroR /\ Below w.heap.size w w1 := by rw [hw1]; exact hZ.out
 clear hw1 hZ
 obtain ⟨k0, z0, hb⟩ := hA
 obtain ⟨c0, c1, c2, c3, c4, c5, c6, c7⟩ := qaX k0
 rcases Classical.em (c.kind = 2) with h2 | h2
 ·have hu : upV c = 1 := if_pos h2
  have hk : (c.kind == 2) = true := by simpa using h2
  have HU : Hid (rkC c = #[.int .i64 c.view, .int .i64 1, .int .i64 c.round]) := hid (by unfold rkC; rw [hu])
  clear h2 hu
  go_wp2_with (first
   | (refine wpList_build rfl _ _ rfl #[(0, .int .i64 c.view), (1, .int .i64 1), (2, .int .i64 c.round)] rfl (qiX _ _ _ _) ?_)
   | (refine wpList_store_row rfl _ _ _ rfl (w.heap.size + 1) #[.int .i64 c.view, .int .i64 1, .int .i64 c.round] rfl rfl _ _ z0 rkInfo rfl (by kernel_rfl) ?_))
  (try simp only [Exit.inBlock, Exit.then])
  refine bodyPost_ret (v := .agg #[.int .i64 c.view, .int .i64 1, .int .i64 c.round]) (qan rfl _ _ (w.heap.size + 1) rfl _ _ _ _ (qac z0) Tryz.underlying189 rfl rkInfo) rfl ?_
  exact ⟨by rw [HU.out], below_setRow hb (by omega)⟩
 ·have hu : upV c = 0 := if_neg h2
  have hk : (c.kind == 2) = false := by simpa using h2
  have HU : Hid (rkC c = #[.int .i64 c.view, .int .i64 0, .int .i64 c.round]) := hid (by unfold rkC; rw [hu])
  clear h2 hu
  go_wp2_with (first
   | (refine wpList_build rfl _ _ rfl #[(0, .int .i64 c.view), (1, .int .i64 0), (2, .int .i64 c.round)] rfl (qiX _ _ _ _) ?_)
   | (refine wpList_store_row rfl _ _ _ rfl (w.heap.size + 1) #[.int .i64 c.view, .int .i64 0, .int .i64 c.round] rfl rfl _ _ z0 rkInfo rfl (by kernel_rfl) ?_))
  (try simp only [Exit.inBlock, Exit.then])
  refine bodyPost_ret (v := .agg #[.int .i64 c.view, .int .i64 0, .int .i64 c.round]) (qan rfl _ _ (w.heap.size + 1) rfl _ _ _ _ (qac z0) Tryz.underlying189 rfl rkInfo) rfl ?_
  exact ⟨by rw [HU.out], below_setRow hb (by omega)⟩
def cmpV (a b : Crt) : Int := if compareInt a.view b.view ≠ 0 then compareInt a.view b.view else if compareInt (upV a) (upV b) ≠ 0 then compareInt (upV a) (upV b) else compareInt a.round b.round
structure ArgAt (w : World) (a b : Crt) (W : World) : Prop where
 ba : L3.Blk W w.heap.size 29 (crtC a)
 bb : L3.Blk W (w.heap.size + 1) 29 (crtC b)
 bw : Below w.heap.size w W
theorem ArgAt.below {w : World} {a b : Crt} {W W' : World} (h : ArgAt w a b W) (hb : Below W.heap.size W W') : ArgAt w a b W' := ⟨h.ba.below hb h.ba.lt, h.bb.below hb h.bb.lt, nxt h.bw hb⟩
theorem ArgAt.row {w : World} {a b : Crt} {W : World} (h : ArgAt w a b W) {g : Nat} (hg : w.heap.size + 1 < g) (cs : Array Value) : ArgAt w a b (W.setRow g cs) := ⟨qah h.ba (by omega), qah h.bb (by omega), below_setRow h.bw (by omega)⟩
theorem qae {W : World} (o : Obj) : Below W.heap.size W (W.alloc o) := (Below.refl _ _).alloc (Nat.le_refl _) o
theorem qbd (W : World) (ty : TypeId) (cs : Array Value) : L3.Blk (W.alloc (.cells cs ty)) W.heap.size ty cs := L3.Blk.new _ _ _
theorem arg_mk (w : World) (a b : Crt) : ArgAt w a b ((w.alloc (.cells (crtC a) 29)).alloc (.cells (crtC b) 29)) := by
 have hb := qa9 (w := w) 29 a
 refine ⟨(qa6 w _ a).alloc _, ?_, hb.alloc hb.size _⟩
 have := qa6 (w.alloc (.cells (crtC a) 29)) 29 b
 simpa using this
structure RkAt (w : World) (x y : Array Value) (gx gy : Nat) (W : World) : Prop where
 bx : L3.Blk W gx 189 x
 by_ : L3.Blk W gy 189 y
 bw : Below w.heap.size w W
theorem RkAt.drew {w : World} {x y : Array Value} {gx gy : Nat} {W : World} (h : RkAt w x y gx gy W) : RkAt w x y gx gy W.drew := ⟨h.bx, h.by_, h.bw.drew⟩
theorem qiq (x y : Int) : compareInt x y = -1 ∨ compareInt x y = 0 ∨ compareInt x y = 1 := by unfold compareInt; split <;> (try split) <;> simp
end Go.Proofs.YtomaaidhmccngaaGreatDoor.L11
namespace Go.Proofs.YtomaaidhmccngaaGreatDoor.L11
open Go.RowKit Go.Lib
def atV (a b : Crt) (k : Nat) : Int := if k = 0 then compareInt a.view b.view else if k = 1 then compareInt (upV a) (upV b) else compareInt a.round b.round
theorem qlo {a b : Crt} {k : Nat} (hk : k < 3) (h : ∀ j, j < k -> atV a b j = 0) (hn : atV a b k ≠ 0) : cmpV a b = atV a b k := by
 unfold cmpV
 obtain rfl | rfl | rfl : k = 0 ∨ k = 1 ∨ k = 2 := by omega
 ·rw [if_pos (by exact hn)]; rfl
 ·have h0 := h 0 (by omega)
  rw [if_neg (fun c => c h0), if_pos (by exact hn)]; rfl
 ·have h0 := h 0 (by omega)
  have h1 := h 1 (by omega)
  rw [if_neg (fun c => c h0), if_neg (fun c => c h1)]; rfl
theorem cmpV_end {a b : Crt} (h : ∀ j, j < 3 -> atV a b j = 0) : cmpV a b = 0 := by
 have h0 := h 0 (by omega)
 have h1 := h 1 (by omega)
 have h2 := h 2 (by omega)
 unfold cmpV
 rw [if_neg (fun c => c h0), if_neg (fun c => c h1)]
 exact h2
def numR (c : Crt) (k : Nat) : Int := if k = 0 then c.view else if k = 1 then upV c else c.round
theorem qmx {W : World} {g : Nat} {c : Crt} (h : L3.Blk W g 189 (rkC c)) {k : Nat} (hk : k < 3) : W.cell? ⟨g, k, none⟩ = some (.int .i64 (numR c k)) := by
 rw [h.cell k]
 obtain rfl | rfl | rfl : k = 0 ∨ k = 1 ∨ k = 2 := by omega
 all_goals rfl
theorem atV_eq (a b : Crt) {k : Nat} (hk : k < 3) : compareInt (numR a k) (numR b k) = atV a b k := by
 obtain rfl | rfl | rfl : k = 0 ∨ k = 1 ∨ k = 2 := by omega
 all_goals rfl
theorem atV_rng (a b : Crt) (k : Nat) : atV a b k = -1 ∨ atV a b k = 0 ∨ atV a b k = 1 := by
 unfold atV
 split
 ·exact qiq _ _
 ·split
  ·exact qiq _ _
  ·exact qiq _ _
theorem qlp (a b : Crt) (w : World) : Calls Tryz.prog 130 #[.agg (crtC a), .agg (crtC b)] w (gives (.int .i64 (cmpV a b)) w) := by
 have hZ := hid (arg_mk w a b)
 have HC := hid (fun x y W => Tryz.cmp_Compare_int x y W)
 go_enter Tryz.func130, Tryz.ntmps130
 go_upto_region 1 with fail
 refine qab (fun w0 hw0 => ?_)
 have hS0 : ArgAt w a b w0 := by rw [hw0]; exact hZ.out
 clear hw0 hZ
 go_cut [5, 6] from 9 to 26 (fun x y wx => ∃ gx gy, x = .pointer (some ⟨gx, 0, none⟩) /\ y = .pointer (some ⟨gy, 0, none⟩) /\ RkAt w (rkC a) (rkC b) gx gy wx)
 case first =>
  have hS : ArgAt w a b w0.drew := ⟨hS0.ba.drew, hS0.bb.drew, hS0.bw.drew⟩
  refine qak (ArgAt w a b) [0, 2] (by kernel_rfl) ?_
  refine qar (f := 6) (by kernel_rfl) (fun _ x _ _ _ h => by cases x <;> exact h) hS [0, 2] _ _ (by kernel_rfl) (by kernel_rfl) (by kernel_rfl) ?_
  have ne : Nonempty (qad (ArgAt w a b)) := ⟨⟨_, hS⟩⟩
  conv => arg 5; simp [pick]
  refine qam rfl _ _ rfl w.heap.size rfl _ _ _ _ (fun y => y.h.ba) Tryz.underlying29 rfl crtInfo ?_
  conv => arg 6; simp only [Act.put, sA, sB, sC]
  refine qam rfl _ _ rfl (w.heap.size + 1) rfl _ _ _ _ (fun y => y.h.bb) Tryz.underlying29 rfl crtInfo ?_
  conv => arg 6; simp only [Act.put, sA, sB, sC]
  refine wpQuiet_nil ?_
  obtain ⟨w3, hw3⟩ := nm (w0.drew)
  rw [<- hw3] at hS ⊢
  clear hw3 hS0 ne
  refine qie 1 4 5 (by kernel_rfl) rfl rfl rfl ?_ ?_ ?_
  · -- [1]
    go_wp2_with (go_at_call 158; refine (qaW a _).mono ?_; unfold gives; rintro e v1 ⟨rfl, hb1⟩)
    have hs1 := hS.below hb1
    refine stepQ.mk ⟨fun _ => hs1, ?_⟩
    refine qie 3 4 5 (by kernel_rfl) rfl rfl rfl ?_ ?_ ?_
    · -- [1, 3]
      go_wp2_with (go_at_call 158; refine (qaW b _).mono ?_; unfold gives; rintro e v2 ⟨rfl, hb2⟩)
      have hs2 := hs1.below hb2
      refine stepQ.mk ⟨fun _ => hs2, ?_⟩
      refine qcM 4 5 (by kernel_rfl) rfl rfl ?_ ?_
      · -- [1, 3, 4]
        go_wp2
        refine stepQ.mk ⟨fun _ => hs2.below (qae _), ?_⟩
        obtain ⟨v3, hv3⟩ := nm (v2.alloc (.cells #[.int .i64 0, .int .i64 0, .int .i64 0] 189))
        obtain ⟨gx, hg3⟩ := nm (v2.heap.size)
        have hs3 : ArgAt w a b v3 := by rw [hv3]; exact hs2.below (qae _)
        have hx3 : L3.Blk v3 gx 189 zeroR := by rw [hv3, hg3]; exact qbd _ _ _
        have lx : w.heap.size + 1 < gx := by rw [hg3]; exact hs2.bb.lt
        rw [<- hv3, <- hg3]
        clear hv3 hg3
        refine qag 5 (by kernel_rfl) rfl ?_
        go_wp2
        refine stepQ.mk ⟨fun _ => hs3.below (qae _), ?_⟩
        obtain ⟨v4, hv4⟩ := nm (v3.alloc (.cells #[.int .i64 0, .int .i64 0, .int .i64 0] 189))
        obtain ⟨gy, hg4⟩ := nm (v3.heap.size)
        have hs4 : ArgAt w a b v4 := by rw [hv4]; exact hs3.below (qae _)
        have hy4 : L3.Blk v4 gy 189 zeroR := by rw [hv4, hg4]; exact qbd _ _ _
        have ly : w.heap.size + 1 < gy := by rw [hg4]; exact hs3.bb.lt
        have hne : gx ≠ gy := by have := hx3.lt; omega
        have hx4 : L3.Blk v4 gx 189 zeroR := by rw [hv4]; exact hx3.below (qae _) hx3.lt
        rw [<- hv4, <- hg4]
        clear hv4 hg4
        refine qag 6 (by kernel_rfl) rfl ?_
        refine wpList_store_row rfl _ _ _ rfl gx (rkC a) rfl rfl _ _ hx4 rkInfo rfl (qaA _) ?_
        go_wp2
        refine stepQ.mk ⟨fun _ => hs4.row lx _, ?_⟩
        refine qag 7 (by kernel_rfl) rfl ?_
        refine wpList_store_row rfl _ _ _ rfl gy (rkC b) rfl rfl _ _ (qah hy4 hne) rkInfo rfl (qaA _) ?_
        go_wp2
        refine stepQ.mk ⟨fun _ => (hs4.row lx _).row ly _, ?_⟩
        refine qaq [] _ _ _ (by kernel_rfl) ?_
        conv => arg 4; simp [pick]
        go_wp2
        (try simp only [Act.put])
        go_meet
        exact ⟨gx, gy, rfl, rfl, qah (qac hx4) hne.symm, qac (qah hy4 hne), ((hs4.row lx _).row ly _).bw⟩
      · -- [1, 3, 5]
        go_wp2
        refine stepQ.mk ⟨fun _ => hs2.below (qae _), ?_⟩
        obtain ⟨v5, hv5⟩ := nm (v2.alloc (.cells #[.int .i64 0, .int .i64 0, .int .i64 0] 189))
        obtain ⟨gy, hg5⟩ := nm (v2.heap.size)
        have hs5 : ArgAt w a b v5 := by rw [hv5]; exact hs2.below (qae _)
        have hy5 : L3.Blk v5 gy 189 zeroR := by rw [hv5, hg5]; exact qbd _ _ _
        have ly : w.heap.size + 1 < gy := by rw [hg5]; exact hs2.bb.lt
        rw [<- hv5, <- hg5]
        clear hv5 hg5
        refine qag 4 (by kernel_rfl) rfl ?_
        go_wp2
        refine stepQ.mk ⟨fun _ => hs5.below (qae _), ?_⟩
        obtain ⟨v6, hv6⟩ := nm (v5.alloc (.cells #[.int .i64 0, .int .i64 0, .int .i64 0] 189))
        obtain ⟨gx, hg6⟩ := nm (v5.heap.size)
        have hs6 : ArgAt w a b v6 := by rw [hv6]; exact hs5.below (qae _)
        have hx6 : L3.Blk v6 gx 189 zeroR := by rw [hv6, hg6]; exact qbd _ _ _
        have lx : w.heap.size + 1 < gx := by rw [hg6]; exact hs5.bb.lt
        have hne : gx ≠ gy := by have := hy5.lt; omega
        have hy6 : L3.Blk v6 gy 189 zeroR := by rw [hv6]; exact hy5.below (qae _) hy5.lt
        rw [<- hv6, <- hg6]
        clear hv6 hg6
        refine qag 6 (by kernel_rfl) rfl ?_
        refine wpList_store_row rfl _ _ _ rfl gx (rkC a) rfl rfl _ _ hx6 rkInfo rfl (qaA _) ?_
        go_wp2
        refine stepQ.mk ⟨fun _ => hs6.row lx _, ?_⟩
        refine qag 7 (by kernel_rfl) rfl ?_
        refine wpList_store_row rfl _ _ _ rfl gy (rkC b) rfl rfl _ _ (qah hy6 hne) rkInfo rfl (qaA _) ?_
        go_wp2
        refine stepQ.mk ⟨fun _ => (hs6.row lx _).row ly _, ?_⟩
        refine qaq [] _ _ _ (by kernel_rfl) ?_
        conv => arg 4; simp [pick]
        go_wp2
        (try simp only [Act.put])
        go_meet
        exact ⟨gx, gy, rfl, rfl, qah (qac hx6) hne.symm, qac (qah hy6 hne), ((hs6.row lx _).row ly _).bw⟩
    · -- [1, 4]
      go_wp2
      refine stepQ.mk ⟨fun _ => hs1.below (qae _), ?_⟩
      obtain ⟨v7, hv7⟩ := nm (v1.alloc (.cells #[.int .i64 0, .int .i64 0, .int .i64 0] 189))
      obtain ⟨gx, hg7⟩ := nm (v1.heap.size)
      have hs7 : ArgAt w a b v7 := by rw [hv7]; exact hs1.below (qae _)
      have hx7 : L3.Blk v7 gx 189 zeroR := by rw [hv7, hg7]; exact qbd _ _ _
      have lx : w.heap.size + 1 < gx := by rw [hg7]; exact hs1.bb.lt
      rw [<- hv7, <- hg7]
      clear hv7 hg7
      refine qcM 3 5 (by kernel_rfl) rfl rfl ?_ ?_
      · -- [1, 4, 3]
        go_wp2_with (go_at_call 158; refine (qaW b _).mono ?_; unfold gives; rintro e v8 ⟨rfl, hb8⟩)
        have hs8 := hs7.below hb8
        have hx8 := hx7.below hb8 hx7.lt
        refine stepQ.mk ⟨fun _ => hs8, ?_⟩
        refine qag 5 (by kernel_rfl) rfl ?_
        go_wp2
        refine stepQ.mk ⟨fun _ => hs8.below (qae _), ?_⟩
        obtain ⟨v9, hv9⟩ := nm (v8.alloc (.cells #[.int .i64 0, .int .i64 0, .int .i64 0] 189))
        obtain ⟨gy, hg9⟩ := nm (v8.heap.size)
        have hs9 : ArgAt w a b v9 := by rw [hv9]; exact hs8.below (qae _)
        have hy9 : L3.Blk v9 gy 189 zeroR := by rw [hv9, hg9]; exact qbd _ _ _
        have ly : w.heap.size + 1 < gy := by rw [hg9]; exact hs8.bb.lt
        have hne : gx ≠ gy := by have := hx8.lt; omega
        have hx9 : L3.Blk v9 gx 189 zeroR := by rw [hv9]; exact hx8.below (qae _) hx8.lt
        rw [<- hv9, <- hg9]
        clear hv9 hg9
        refine qag 6 (by kernel_rfl) rfl ?_
        refine wpList_store_row rfl _ _ _ rfl gx (rkC a) rfl rfl _ _ hx9 rkInfo rfl (qaA _) ?_
        go_wp2
        refine stepQ.mk ⟨fun _ => hs9.row lx _, ?_⟩
        refine qag 7 (by kernel_rfl) rfl ?_
        refine wpList_store_row rfl _ _ _ rfl gy (rkC b) rfl rfl _ _ (qah hy9 hne) rkInfo rfl (qaA _) ?_
        go_wp2
        refine stepQ.mk ⟨fun _ => (hs9.row lx _).row ly _, ?_⟩
        refine qaq [] _ _ _ (by kernel_rfl) ?_
        conv => arg 4; simp [pick]
        go_wp2
        (try simp only [Act.put])
        go_meet
        exact ⟨gx, gy, rfl, rfl, qah (qac hx9) hne.symm, qac (qah hy9 hne), ((hs9.row lx _).row ly _).bw⟩
      · -- [1, 4, 5]
        go_wp2
        refine stepQ.mk ⟨fun _ => hs7.below (qae _), ?_⟩
        obtain ⟨v10, hv10⟩ := nm (v7.alloc (.cells #[.int .i64 0, .int .i64 0, .int .i64 0] 189))
        obtain ⟨gy, hg10⟩ := nm (v7.heap.size)
        have hs10 : ArgAt w a b v10 := by rw [hv10]; exact hs7.below (qae _)
        have hy10 : L3.Blk v10 gy 189 zeroR := by rw [hv10, hg10]; exact qbd _ _ _
        have ly : w.heap.size + 1 < gy := by rw [hg10]; exact hs7.bb.lt
        have hne : gx ≠ gy := by have := hx7.lt; omega
        have hx10 : L3.Blk v10 gx 189 zeroR := by rw [hv10]; exact hx7.below (qae _) hx7.lt
        rw [<- hv10, <- hg10]
        clear hv10 hg10
        refine qag 3 (by kernel_rfl) rfl ?_
        go_wp2_with (go_at_call 158; refine (qaW b _).mono ?_; unfold gives; rintro e v11 ⟨rfl, hb11⟩)
        have hs11 := hs10.below hb11
        have hx11 := hx10.below hb11 hx10.lt
        have hy11 := hy10.below hb11 hy10.lt
        refine stepQ.mk ⟨fun _ => hs11, ?_⟩
        refine qag 6 (by kernel_rfl) rfl ?_
        refine wpList_store_row rfl _ _ _ rfl gx (rkC a) rfl rfl _ _ hx11 rkInfo rfl (qaA _) ?_
        go_wp2
        refine stepQ.mk ⟨fun _ => hs11.row lx _, ?_⟩
        refine qag 7 (by kernel_rfl) rfl ?_
        refine wpList_store_row rfl _ _ _ rfl gy (rkC b) rfl rfl _ _ (qah hy11 hne) rkInfo rfl (qaA _) ?_
        go_wp2
        refine stepQ.mk ⟨fun _ => (hs11.row lx _).row ly _, ?_⟩
        refine qaq [] _ _ _ (by kernel_rfl) ?_
        conv => arg 4; simp [pick]
        go_wp2
        (try simp only [Act.put])
        go_meet
        exact ⟨gx, gy, rfl, rfl, qah (qac hx11) hne.symm, qac (qah hy11 hne), ((hs11.row lx _).row ly _).bw⟩
    · -- [1, 5]
      go_wp2
      refine stepQ.mk ⟨fun _ => hs1.below (qae _), ?_⟩
      obtain ⟨v12, hv12⟩ := nm (v1.alloc (.cells #[.int .i64 0, .int .i64 0, .int .i64 0] 189))
      obtain ⟨gy, hg12⟩ := nm (v1.heap.size)
      have hs12 : ArgAt w a b v12 := by rw [hv12]; exact hs1.below (qae _)
      have hy12 : L3.Blk v12 gy 189 zeroR := by rw [hv12, hg12]; exact qbd _ _ _
      have ly : w.heap.size + 1 < gy := by rw [hg12]; exact hs1.bb.lt
      rw [<- hv12, <- hg12]
      clear hv12 hg12
      refine qcM 3 4 (by kernel_rfl) rfl rfl ?_ ?_
      · -- [1, 5, 3]
        go_wp2_with (go_at_call 158; refine (qaW b _).mono ?_; unfold gives; rintro e v13 ⟨rfl, hb13⟩)
        have hs13 := hs12.below hb13
        have hy13 := hy12.below hb13 hy12.lt
        refine stepQ.mk ⟨fun _ => hs13, ?_⟩
        refine qag 4 (by kernel_rfl) rfl ?_
        go_wp2
        refine stepQ.mk ⟨fun _ => hs13.below (qae _), ?_⟩
        obtain ⟨v14, hv14⟩ := nm (v13.alloc (.cells #[.int .i64 0, .int .i64 0, .int .i64 0] 189))
        obtain ⟨gx, hg14⟩ := nm (v13.heap.size)
        have hs14 : ArgAt w a b v14 := by rw [hv14]; exact hs13.below (qae _)
        have hx14 : L3.Blk v14 gx 189 zeroR := by rw [hv14, hg14]; exact qbd _ _ _
        have lx : w.heap.size + 1 < gx := by rw [hg14]; exact hs13.bb.lt
        have hne : gx ≠ gy := by have := hy13.lt; omega
        have hy14 : L3.Blk v14 gy 189 zeroR := by rw [hv14]; exact hy13.below (qae _) hy13.lt
        rw [<- hv14, <- hg14]
        clear hv14 hg14
        refine qag 6 (by kernel_rfl) rfl ?_
        refine wpList_store_row rfl _ _ _ rfl gx (rkC a) rfl rfl _ _ hx14 rkInfo rfl (qaA _) ?_
        go_wp2
        refine stepQ.mk ⟨fun _ => hs14.row lx _, ?_⟩
        refine qag 7 (by kernel_rfl) rfl ?_
        refine wpList_store_row rfl _ _ _ rfl gy (rkC b) rfl rfl _ _ (qah hy14 hne) rkInfo rfl (qaA _) ?_
        go_wp2
        refine stepQ.mk ⟨fun _ => (hs14.row lx _).row ly _, ?_⟩
        refine qaq [] _ _ _ (by kernel_rfl) ?_
        conv => arg 4; simp [pick]
        go_wp2
        (try simp only [Act.put])
        go_meet
        exact ⟨gx, gy, rfl, rfl, qah (qac hx14) hne.symm, qac (qah hy14 hne), ((hs14.row lx _).row ly _).bw⟩
      · -- [1, 5, 4]
        go_wp2
        refine stepQ.mk ⟨fun _ => hs12.below (qae _), ?_⟩
        obtain ⟨v15, hv15⟩ := nm (v12.alloc (.cells #[.int .i64 0, .int .i64 0, .int .i64 0] 189))
        obtain ⟨gx, hg15⟩ := nm (v12.heap.size)
        have hs15 : ArgAt w a b v15 := by rw [hv15]; exact hs12.below (qae _)
        have hx15 : L3.Blk v15 gx 189 zeroR := by rw [hv15, hg15]; exact qbd _ _ _
        have lx : w.heap.size + 1 < gx := by rw [hg15]; exact hs12.bb.lt
        have hne : gx ≠ gy := by have := hy12.lt; omega
        have hy15 : L3.Blk v15 gy 189 zeroR := by rw [hv15]; exact hy12.below (qae _) hy12.lt
        rw [<- hv15, <- hg15]
        clear hv15 hg15
        refine qag 3 (by kernel_rfl) rfl ?_
        go_wp2_with (go_at_call 158; refine (qaW b _).mono ?_; unfold gives; rintro e v16 ⟨rfl, hb16⟩)
        have hs16 := hs15.below hb16
        have hx16 := hx15.below hb16 hx15.lt
        have hy16 := hy15.below hb16 hy15.lt
        refine stepQ.mk ⟨fun _ => hs16, ?_⟩
        refine qag 6 (by kernel_rfl) rfl ?_
        refine wpList_store_row rfl _ _ _ rfl gx (rkC a) rfl rfl _ _ hx16 rkInfo rfl (qaA _) ?_
        go_wp2
        refine stepQ.mk ⟨fun _ => hs16.row lx _, ?_⟩
        refine qag 7 (by kernel_rfl) rfl ?_
        refine wpList_store_row rfl _ _ _ rfl gy (rkC b) rfl rfl _ _ (qah hy16 hne) rkInfo rfl (qaA _) ?_
        go_wp2
        refine stepQ.mk ⟨fun _ => (hs16.row lx _).row ly _, ?_⟩
        refine qaq [] _ _ _ (by kernel_rfl) ?_
        conv => arg 4; simp [pick]
        go_wp2
        (try simp only [Act.put])
        go_meet
        exact ⟨gx, gy, rfl, rfl, qah (qac hx16) hne.symm, qac (qah hy16 hne), ((hs16.row lx _).row ly _).bw⟩
  · -- [4]
    go_wp2
    refine stepQ.mk ⟨fun _ => hS.below (qae _), ?_⟩
    obtain ⟨v17, hv17⟩ := nm (w3.alloc (.cells #[.int .i64 0, .int .i64 0, .int .i64 0] 189))
    obtain ⟨gx, hg17⟩ := nm (w3.heap.size)
    have hs17 : ArgAt w a b v17 := by rw [hv17]; exact hS.below (qae _)
    have hx17 : L3.Blk v17 gx 189 zeroR := by rw [hv17, hg17]; exact qbd _ _ _
    have lx : w.heap.size + 1 < gx := by rw [hg17]; exact hS.bb.lt
    rw [<- hv17, <- hg17]
    clear hv17 hg17
    refine qcM 1 5 (by kernel_rfl) rfl rfl ?_ ?_
    · -- [4, 1]
      go_wp2_with (go_at_call 158; refine (qaW a _).mono ?_; unfold gives; rintro e v18 ⟨rfl, hb18⟩)
      have hs18 := hs17.below hb18
      have hx18 := hx17.below hb18 hx17.lt
      refine stepQ.mk ⟨fun _ => hs18, ?_⟩
      refine qcM 3 5 (by kernel_rfl) rfl rfl ?_ ?_
      · -- [1, 4, 3]
        go_wp2_with (go_at_call 158; refine (qaW b _).mono ?_; unfold gives; rintro e v19 ⟨rfl, hb19⟩)
        have hs19 := hs18.below hb19
        have hx19 := hx18.below hb19 hx18.lt
        refine stepQ.mk ⟨fun _ => hs19, ?_⟩
        refine qag 5 (by kernel_rfl) rfl ?_
        go_wp2
        refine stepQ.mk ⟨fun _ => hs19.below (qae _), ?_⟩
        obtain ⟨v20, hv20⟩ := nm (v19.alloc (.cells #[.int .i64 0, .int .i64 0, .int .i64 0] 189))
        obtain ⟨gy, hg20⟩ := nm (v19.heap.size)
        have hs20 : ArgAt w a b v20 := by rw [hv20]; exact hs19.below (qae _)
        have hy20 : L3.Blk v20 gy 189 zeroR := by rw [hv20, hg20]; exact qbd _ _ _
        have ly : w.heap.size + 1 < gy := by rw [hg20]; exact hs19.bb.lt
        have hne : gx ≠ gy := by have := hx19.lt; omega
        have hx20 : L3.Blk v20 gx 189 zeroR := by rw [hv20]; exact hx19.below (qae _) hx19.lt
        rw [<- hv20, <- hg20]
        clear hv20 hg20
        refine qag 6 (by kernel_rfl) rfl ?_
        refine wpList_store_row rfl _ _ _ rfl gx (rkC a) rfl rfl _ _ hx20 rkInfo rfl (qaA _) ?_
        go_wp2
        refine stepQ.mk ⟨fun _ => hs20.row lx _, ?_⟩
        refine qag 7 (by kernel_rfl) rfl ?_
        refine wpList_store_row rfl _ _ _ rfl gy (rkC b) rfl rfl _ _ (qah hy20 hne) rkInfo rfl (qaA _) ?_
        go_wp2
        refine stepQ.mk ⟨fun _ => (hs20.row lx _).row ly _, ?_⟩
        refine qaq [] _ _ _ (by kernel_rfl) ?_
        conv => arg 4; simp [pick]
        go_wp2
        (try simp only [Act.put])
        go_meet
        exact ⟨gx, gy, rfl, rfl, qah (qac hx20) hne.symm, qac (qah hy20 hne), ((hs20.row lx _).row ly _).bw⟩
      · -- [1, 4, 5]
        go_wp2
        refine stepQ.mk ⟨fun _ => hs18.below (qae _), ?_⟩
        obtain ⟨v21, hv21⟩ := nm (v18.alloc (.cells #[.int .i64 0, .int .i64 0, .int .i64 0] 189))
        obtain ⟨gy, hg21⟩ := nm (v18.heap.size)
        have hs21 : ArgAt w a b v21 := by rw [hv21]; exact hs18.below (qae _)
        have hy21 : L3.Blk v21 gy 189 zeroR := by rw [hv21, hg21]; exact qbd _ _ _
        have ly : w.heap.size + 1 < gy := by rw [hg21]; exact hs18.bb.lt
        have hne : gx ≠ gy := by have := hx18.lt; omega
        have hx21 : L3.Blk v21 gx 189 zeroR := by rw [hv21]; exact hx18.below (qae _) hx18.lt
        rw [<- hv21, <- hg21]
        clear hv21 hg21
        refine qag 3 (by kernel_rfl) rfl ?_
        go_wp2_with (go_at_call 158; refine (qaW b _).mono ?_; unfold gives; rintro e v22 ⟨rfl, hb22⟩)
        have hs22 := hs21.below hb22
        have hx22 := hx21.below hb22 hx21.lt
        have hy22 := hy21.below hb22 hy21.lt
        refine stepQ.mk ⟨fun _ => hs22, ?_⟩
        refine qag 6 (by kernel_rfl) rfl ?_
        refine wpList_store_row rfl _ _ _ rfl gx (rkC a) rfl rfl _ _ hx22 rkInfo rfl (qaA _) ?_
        go_wp2
        refine stepQ.mk ⟨fun _ => hs22.row lx _, ?_⟩
        refine qag 7 (by kernel_rfl) rfl ?_
        refine wpList_store_row rfl _ _ _ rfl gy (rkC b) rfl rfl _ _ (qah hy22 hne) rkInfo rfl (qaA _) ?_
        go_wp2
        refine stepQ.mk ⟨fun _ => (hs22.row lx _).row ly _, ?_⟩
        refine qaq [] _ _ _ (by kernel_rfl) ?_
        conv => arg 4; simp [pick]
        go_wp2
        (try simp only [Act.put])
        go_meet
        exact ⟨gx, gy, rfl, rfl, qah (qac hx22) hne.symm, qac (qah hy22 hne), ((hs22.row lx _).row ly _).bw⟩
    · -- [4, 5]
      go_wp2
      refine stepQ.mk ⟨fun _ => hs17.below (qae _), ?_⟩
      obtain ⟨v23, hv23⟩ := nm (v17.alloc (.cells #[.int .i64 0, .int .i64 0, .int .i64 0] 189))
      obtain ⟨gy, hg23⟩ := nm (v17.heap.size)
      have hs23 : ArgAt w a b v23 := by rw [hv23]; exact hs17.below (qae _)
      have hy23 : L3.Blk v23 gy 189 zeroR := by rw [hv23, hg23]; exact qbd _ _ _
      have ly : w.heap.size + 1 < gy := by rw [hg23]; exact hs17.bb.lt
      have hne : gx ≠ gy := by have := hx17.lt; omega
      have hx23 : L3.Blk v23 gx 189 zeroR := by rw [hv23]; exact hx17.below (qae _) hx17.lt
      rw [<- hv23, <- hg23]
      clear hv23 hg23
      refine qag 1 (by kernel_rfl) rfl ?_
      go_wp2_with (go_at_call 158; refine (qaW a _).mono ?_; unfold gives; rintro e v24 ⟨rfl, hb24⟩)
      have hs24 := hs23.below hb24
      have hx24 := hx23.below hb24 hx23.lt
      have hy24 := hy23.below hb24 hy23.lt
      refine stepQ.mk ⟨fun _ => hs24, ?_⟩
      refine qag 3 (by kernel_rfl) rfl ?_
      go_wp2_with (go_at_call 158; refine (qaW b _).mono ?_; unfold gives; rintro e v25 ⟨rfl, hb25⟩)
      have hs25 := hs24.below hb25
      have hx25 := hx24.below hb25 hx24.lt
      have hy25 := hy24.below hb25 hy24.lt
      refine stepQ.mk ⟨fun _ => hs25, ?_⟩
      refine qag 6 (by kernel_rfl) rfl ?_
      refine wpList_store_row rfl _ _ _ rfl gx (rkC a) rfl rfl _ _ hx25 rkInfo rfl (qaA _) ?_
      go_wp2
      refine stepQ.mk ⟨fun _ => hs25.row lx _, ?_⟩
      refine qag 7 (by kernel_rfl) rfl ?_
      refine wpList_store_row rfl _ _ _ rfl gy (rkC b) rfl rfl _ _ (qah hy25 hne) rkInfo rfl (qaA _) ?_
      go_wp2
      refine stepQ.mk ⟨fun _ => (hs25.row lx _).row ly _, ?_⟩
      refine qaq [] _ _ _ (by kernel_rfl) ?_
      conv => arg 4; simp [pick]
      go_wp2
      (try simp only [Act.put])
      go_meet
      exact ⟨gx, gy, rfl, rfl, qah (qac hx25) hne.symm, qac (qah hy25 hne), ((hs25.row lx _).row ly _).bw⟩
  · -- [5]
    go_wp2
    refine stepQ.mk ⟨fun _ => hS.below (qae _), ?_⟩
    obtain ⟨v26, hv26⟩ := nm (w3.alloc (.cells #[.int .i64 0, .int .i64 0, .int .i64 0] 189))
    obtain ⟨gy, hg26⟩ := nm (w3.heap.size)
    have hs26 : ArgAt w a b v26 := by rw [hv26]; exact hS.below (qae _)
    have hy26 : L3.Blk v26 gy 189 zeroR := by rw [hv26, hg26]; exact qbd _ _ _
    have ly : w.heap.size + 1 < gy := by rw [hg26]; exact hS.bb.lt
    rw [<- hv26, <- hg26]
    clear hv26 hg26
    refine qcM 1 4 (by kernel_rfl) rfl rfl ?_ ?_
    · -- [5, 1]
      go_wp2_with (go_at_call 158; refine (qaW a _).mono ?_; unfold gives; rintro e v27 ⟨rfl, hb27⟩)
      have hs27 := hs26.below hb27
      have hy27 := hy26.below hb27 hy26.lt
      refine stepQ.mk ⟨fun _ => hs27, ?_⟩
      refine qcM 3 4 (by kernel_rfl) rfl rfl ?_ ?_
      · -- [1, 5, 3]
        go_wp2_with (go_at_call 158; refine (qaW b _).mono ?_; unfold gives; rintro e v28 ⟨rfl, hb28⟩)
        have hs28 := hs27.below hb28
        have hy28 := hy27.below hb28 hy27.lt
        refine stepQ.mk ⟨fun _ => hs28, ?_⟩
        refine qag 4 (by kernel_rfl) rfl ?_
        go_wp2
        refine stepQ.mk ⟨fun _ => hs28.below (qae _), ?_⟩
        obtain ⟨v29, hv29⟩ := nm (v28.alloc (.cells #[.int .i64 0, .int .i64 0, .int .i64 0] 189))
        obtain ⟨gx, hg29⟩ := nm (v28.heap.size)
        have hs29 : ArgAt w a b v29 := by rw [hv29]; exact hs28.below (qae _)
        have hx29 : L3.Blk v29 gx 189 zeroR := by rw [hv29, hg29]; exact qbd _ _ _
        have lx : w.heap.size + 1 < gx := by rw [hg29]; exact hs28.bb.lt
        have hne : gx ≠ gy := by have := hy28.lt; omega
        have hy29 : L3.Blk v29 gy 189 zeroR := by rw [hv29]; exact hy28.below (qae _) hy28.lt
        rw [<- hv29, <- hg29]
        clear hv29 hg29
        refine qag 6 (by kernel_rfl) rfl ?_
        refine wpList_store_row rfl _ _ _ rfl gx (rkC a) rfl rfl _ _ hx29 rkInfo rfl (qaA _) ?_
        go_wp2
        refine stepQ.mk ⟨fun _ => hs29.row lx _, ?_⟩
        refine qag 7 (by kernel_rfl) rfl ?_
        refine wpList_store_row rfl _ _ _ rfl gy (rkC b) rfl rfl _ _ (qah hy29 hne) rkInfo rfl (qaA _) ?_
        go_wp2
        refine stepQ.mk ⟨fun _ => (hs29.row lx _).row ly _, ?_⟩
        refine qaq [] _ _ _ (by kernel_rfl) ?_
        conv => arg 4; simp [pick]
        go_wp2
        (try simp only [Act.put])
        go_meet
        exact ⟨gx, gy, rfl, rfl, qah (qac hx29) hne.symm, qac (qah hy29 hne), ((hs29.row lx _).row ly _).bw⟩
      · -- [1, 5, 4]
        go_wp2
        refine stepQ.mk ⟨fun _ => hs27.below (qae _), ?_⟩
        obtain ⟨v30, hv30⟩ := nm (v27.alloc (.cells #[.int .i64 0, .int .i64 0, .int .i64 0] 189))
        obtain ⟨gx, hg30⟩ := nm (v27.heap.size)
        have hs30 : ArgAt w a b v30 := by rw [hv30]; exact hs27.below (qae _)
        have hx30 : L3.Blk v30 gx 189 zeroR := by rw [hv30, hg30]; exact qbd _ _ _
        have lx : w.heap.size + 1 < gx := by rw [hg30]; exact hs27.bb.lt
        have hne : gx ≠ gy := by have := hy27.lt; omega
        have hy30 : L3.Blk v30 gy 189 zeroR := by rw [hv30]; exact hy27.below (qae _) hy27.lt
        rw [<- hv30, <- hg30]
        clear hv30 hg30
        refine qag 3 (by kernel_rfl) rfl ?_
        go_wp2_with (go_at_call 158; refine (qaW b _).mono ?_; unfold gives; rintro e v31 ⟨rfl, hb31⟩)
        have hs31 := hs30.below hb31
        have hx31 := hx30.below hb31 hx30.lt
        have hy31 := hy30.below hb31 hy30.lt
        refine stepQ.mk ⟨fun _ => hs31, ?_⟩
        refine qag 6 (by kernel_rfl) rfl ?_
        refine wpList_store_row rfl _ _ _ rfl gx (rkC a) rfl rfl _ _ hx31 rkInfo rfl (qaA _) ?_
        go_wp2
        refine stepQ.mk ⟨fun _ => hs31.row lx _, ?_⟩
        refine qag 7 (by kernel_rfl) rfl ?_
        refine wpList_store_row rfl _ _ _ rfl gy (rkC b) rfl rfl _ _ (qah hy31 hne) rkInfo rfl (qaA _) ?_
        go_wp2
        refine stepQ.mk ⟨fun _ => (hs31.row lx _).row ly _, ?_⟩
        refine qaq [] _ _ _ (by kernel_rfl) ?_
        conv => arg 4; simp [pick]
        go_wp2
        (try simp only [Act.put])
        go_meet
        exact ⟨gx, gy, rfl, rfl, qah (qac hx31) hne.symm, qac (qah hy31 hne), ((hs31.row lx _).row ly _).bw⟩
    · -- [5, 4]
      go_wp2
      refine stepQ.mk ⟨fun _ => hs26.below (qae _), ?_⟩
      obtain ⟨v32, hv32⟩ := nm (v26.alloc (.cells #[.int .i64 0, .int .i64 0, .int .i64 0] 189))
      obtain ⟨gx, hg32⟩ := nm (v26.heap.size)
      have hs32 : ArgAt w a b v32 := by rw [hv32]; exact hs26.below (qae _)
      have hx32 : L3.Blk v32 gx 189 zeroR := by rw [hv32, hg32]; exact qbd _ _ _
      have lx : w.heap.size + 1 < gx := by rw [hg32]; exact hs26.bb.lt
      have hne : gx ≠ gy := by have := hy26.lt; omega
      have hy32 : L3.Blk v32 gy 189 zeroR := by rw [hv32]; exact hy26.below (qae _) hy26.lt
      rw [<- hv32, <- hg32]
      clear hv32 hg32
      refine qag 1 (by kernel_rfl) rfl ?_
      go_wp2_with (go_at_call 158; refine (qaW a _).mono ?_; unfold gives; rintro e v33 ⟨rfl, hb33⟩)
      have hs33 := hs32.below hb33
      have hx33 := hx32.below hb33 hx32.lt
      have hy33 := hy32.below hb33 hy32.lt
      refine stepQ.mk ⟨fun _ => hs33, ?_⟩
      refine qag 3 (by kernel_rfl) rfl ?_
      go_wp2_with (go_at_call 158; refine (qaW b _).mono ?_; unfold gives; rintro e v34 ⟨rfl, hb34⟩)
      have hs34 := hs33.below hb34
      have hx34 := hx33.below hb34 hx33.lt
      have hy34 := hy33.below hb34 hy33.lt
      refine stepQ.mk ⟨fun _ => hs34, ?_⟩
      refine qag 6 (by kernel_rfl) rfl ?_
      refine wpList_store_row rfl _ _ _ rfl gx (rkC a) rfl rfl _ _ hx34 rkInfo rfl (qaA _) ?_
      go_wp2
      refine stepQ.mk ⟨fun _ => hs34.row lx _, ?_⟩
      refine qag 7 (by kernel_rfl) rfl ?_
      refine wpList_store_row rfl _ _ _ rfl gy (rkC b) rfl rfl _ _ (qah hy34 hne) rkInfo rfl (qaA _) ?_
      go_wp2
      refine stepQ.mk ⟨fun _ => (hs34.row lx _).row ly _, ?_⟩
      refine qaq [] _ _ _ (by kernel_rfl) ?_
      conv => arg 4; simp [pick]
      go_wp2
      (try simp only [Act.put])
      go_meet
      exact ⟨gx, gy, rfl, rfl, qah (qac hx34) hne.symm, qac (qah hy34 hne), ((hs34.row lx _).row ly _).bw⟩
 case rest =>
  obtain ⟨gx, gy, rfl, rfl, hR⟩ := hcut
  clear hS0
  go_wp2
  go_loopw [4, 13] (fun r i wr => ∃ k : Nat, r = .int .i64 0 /\ i = .int .i64 k /\ k <= 3 /\ Hid (∀ j, j < k -> atV a b j = 0) /\ RkAt w (rkC a) (rkC b) gx gy wr) (fun _ i _ => 3 - (RowKit.intOf i).toNat)
  case atStart => exact ⟨0, rfl, rfl, by omega, hid (fun j hj => by omega), hR⟩
  case round =>
   obtain ⟨k, rfl, rfl, hk, hz, hr⟩ := hrel
   by_cases hlt : k < 3
   ·have hcv := HC.out (numR a k) (numR b k)
    rw [atV_eq a b hlt] at hcv
    have hd := hr.drew
    have hrg := atV_rng a b k
    obtain ⟨v, hv⟩ := nm (atV a b k)
    rw [<- hv] at hcv hrg
    have HCV := hid hcv
    have HV := hid hv
    have ne : Nonempty (qad (RkAt w (rkC a) (rkC b) gx gy)) := ⟨⟨_, hd⟩⟩
    have p1 : ∀ y : qad (RkAt w (rkC a) (rkC b) gx gy), y.w.cell? ⟨gx, k, none⟩ = some (.int .i64 (numR a k)) := fun y => qmx y.h.bx hlt
    have p2 : ∀ y : qad (RkAt w (rkC a) (rkC b) gx gy), y.w.cell? ⟨gy, k, none⟩ = some (.int .i64 (numR b k)) := fun y => qmx y.h.by_ hlt
    clear hcv hv
    go_upto_region 5 with fail
    refine qat (RkAt w (rkC a) (rkC b) gx gy) (by kernel_rfl) (by kernel_rfl) hd ?_
    iterate 6 go_big_quiet_step (fail)
    refine qaj rfl 159 _ _ rfl Tryz.call159 [.int .i64 (numR a k), .int .i64 (numR b k)] rfl (v := .int .i64 v) (fun x => (HCV.out x.w).mono fun e w' ⟨he, hb⟩ => ⟨he, by rw [hb]; exact x.h⟩) ?_
    conv => arg 6; simp only [Act.put, sA, sB, sC]
    iterate 1 go_big_quiet_step (fail)
    refine wpQuiet_nil ?_
    intro x
    obtain ⟨W, hW⟩ := x
    dsimp only
    clear ne p1 p2 HCV hd hr hR
    rcases hrg with rfl | rfl | rfl
    ·go_wp2_with fail
     go_ret
     exact ⟨by rw [qlo hlt hz.out (by rw [<- HV.out]; decide), <- HV.out]; rfl, hW.bw⟩
    ·go_wp2_with fail
     go_roundw
     case rel =>
      refine ⟨k + 1, rfl, by go_num, by omega, hid (fun j hj => ?_), hW⟩
      rcases Nat.lt_or_ge j k with h | h
      ·exact hz.out j h
      ·obtain rfl : j = k := by omega
       exact HV.out.symm
     case measure => simp [RowKit.intOf]; omega
    ·go_wp2_with fail
     go_ret
     exact ⟨by rw [qlo hlt hz.out (by rw [<- HV.out]; decide), <- HV.out]; rfl, hW.bw⟩
   ·have hk3 : k = 3 := by omega
    subst hk3
    have he : cmpV a b = 0 := cmpV_end hz.out
    have HE := hid he
    clear he
    go_wp2_with fail
    go_ret
    exact ⟨by rw [HE.out]; rfl, hr.bw⟩
theorem max_any (a b : Crt) (w : World) : Calls Tryz.prog 78 #[.agg (crtC a), .agg (crtC b)] w (gives (.agg (crtC (if cmpV a b < 0 then b else a))) w) := by
 have h2 := arg_mk w a b
 have hZ : Hid (ArgAt w a b (((w.alloc (.cells (crtC a) 29)).alloc (.cells (crtC b) 29)).alloc (.cells (crtC zeroC) 29)) /\ L3.Blk (((w.alloc (.cells (crtC a) 29)).alloc (.cells (crtC b) 29)).alloc (.cells (crtC zeroC) 29)) (w.heap.size + 1 + 1) 29 (crtC zeroC)) := by
  refine hid ⟨h2.below (qae _), ?_⟩
  have := qbd ((w.alloc (.cells (crtC a) 29)).alloc (.cells (crtC b) 29)) 29 (crtC zeroC)
  simpa using this
 have hC := hid (fun W => qlp a b W)
 clear h2
 go_enter Tryz.func78, Tryz.ntmps78
 go_upto_region 1 with fail
 refine qab (fun w1 hw1 => ?_)
 have hA : ArgAt w a b w1 /\ L3.Blk w1 (w.heap.size + 1 + 1) 29 (crtC zeroC) := by rw [hw1]; exact hZ.out
 clear hw1 hZ
 obtain ⟨hs, z0⟩ := hA
 by_cases hv : cmpV a b < 0
 ·have e : (if cmpV a b < 0 then b else a) = b := if_pos hv
  rw [e]
  clear e
  go_wp2_with (first
   | (refine qaa rfl _ _ rfl w.heap.size rfl _ _ _ _ hs.ba Tryz.underlying29 rfl crtInfo ?_)
   | (refine qaa rfl _ _ rfl (w.heap.size + 1) rfl _ _ _ _ hs.bb Tryz.underlying29 rfl crtInfo ?_)
   | (go_at_call 130; refine (hC.out _).mono ?_; unfold gives; rintro e w2 ⟨rfl, hb2⟩; have hs2 := hs.below hb2; have z2 := z0.below hb2 z0.lt)
   | (refine qaa rfl _ _ rfl (w.heap.size + 1) rfl _ _ _ _ hs2.bb Tryz.underlying29 rfl crtInfo ?_)
   | (refine wpList_store_row rfl _ _ _ rfl (w.heap.size + 1 + 1) (crtC b) rfl rfl _ _ z2 crtInfo rfl (qal _) ?_))
  (try simp only [Exit.inBlock, Exit.then])
  refine bodyPost_ret (v := .agg (crtC b)) (qan rfl _ _ (w.heap.size + 1 + 1) rfl _ _ _ _ (qac z2) Tryz.underlying29 rfl crtInfo) rfl ?_
  exact ⟨rfl, below_setRow hs2.bw (by omega)⟩
 ·have e : (if cmpV a b < 0 then b else a) = a := if_neg hv
  rw [e]
  clear e
  go_wp2_with (first
   | (refine qaa rfl _ _ rfl w.heap.size rfl _ _ _ _ hs.ba Tryz.underlying29 rfl crtInfo ?_)
   | (refine qaa rfl _ _ rfl (w.heap.size + 1) rfl _ _ _ _ hs.bb Tryz.underlying29 rfl crtInfo ?_)
   | (go_at_call 130; refine (hC.out _).mono ?_; unfold gives; rintro e w2 ⟨rfl, hb2⟩; have hs2 := hs.below hb2; have z2 := z0.below hb2 z0.lt)
   | (refine qaa rfl _ _ rfl w.heap.size rfl _ _ _ _ hs2.ba Tryz.underlying29 rfl crtInfo ?_)
   | (refine wpList_store_row rfl _ _ _ rfl (w.heap.size + 1 + 1) (crtC a) rfl rfl _ _ z2 crtInfo rfl (qal _) ?_))
  (try simp only [Exit.inBlock, Exit.then])
  refine bodyPost_ret (v := .agg (crtC a)) (qan rfl _ _ (w.heap.size + 1 + 1) rfl _ _ _ _ (qac z2) Tryz.underlying29 rfl crtInfo) rfl ?_
  exact ⟨rfl, below_setRow hs2.bw (by omega)⟩
end Go.Proofs.YtomaaidhmccngaaGreatDoor.L11
