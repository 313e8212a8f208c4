/-
  A certificate's bytes, by the document's answer.
-/
import Derived.Test.YtkjkkbionlmohaaBytesC
set_option linter.unusedSimpArgs false
set_option linter.unusedVariables false
namespace Go.Proofs.Ytkjkkbionlmohaa
open Go.RowKit Go.Lib
open L3 (encN encs strOf)

theorem c_refN (k : Int) (w : World) (hk : 0 ≤ k ∧ k ≤ 4611686018427387904) : Calls Try.prog 23 #[.int .i64 k] w (gives (.string (strOf (encN k.toNat))) w) := by
  obtain ⟨m, rfl⟩ := Int.eq_ofNat_of_zero_le hk.1
  exact (L3.refN_ok m w (by omega)).mono fun _ _ h => h
theorem encN_len {n : Int} (h : 0 ≤ n ∧ n ≤ 4611686018427387904) : (encN n.toNat).length ≤ 9 := L3.encN_le9 (by omega)
theorem len_app (a b : List UInt8) (n m : Nat) (ha : a.length ≤ n) (hb : b.length ≤ m) : (a ++ b).length ≤ n + m := by rw [List.length_append]; omega
/-- Texts one behind the other, and how long they are at most. -/
theorem app_ok {a b : List UInt8} {n m : Nat} (ha : a.length ≤ n) (hb : b.length ≤ m) (hn : n + m ≤ 1000000) : ¬ 9223372036854775807 < (strOf a).size + (strOf b).size := by rw [L3.strOf_size, L3.strOf_size]; omega
/-- A number's bytes by the document, named. -/
theorem refN_is (k : Int) (x : List UInt8) (w : World) (hk : 0 ≤ k ∧ k ≤ 4611686018427387904) (hx : x = encN k.toNat) : Calls Try.prog 23 #[.int .i64 k] w (gives (.string (strOf x)) w) := by
  rw [hx]; exact c_refN k w hk
set_option maxHeartbeats 4000000 in
set_option maxRecDepth 100000 in
theorem refbytes_any (c : Crt) (w : World) (h : c.wf) (hr : mayV c = true) : Calls Try.prog 14 #[.agg (crtC c)] w (gives (.string (strOf (bytesV c))) w) := by
  have hb0 : Below w.heap.size w (w.alloc (.cells (crtC c) 24)) := below_box _ c
  have k0 := box_new w 24 c
  have c0 : (w.alloc (.cells (crtC c) 24)).cell? ⟨w.heap.size, 0, none⟩ = some (.int .i64 c.kind) := k0.cell 0
  have hw6 := wrap_u h.2.2.2.2.2.2.1
  have hw7 := wrap_u h.2.2.2.2.2.2.2
  clear h
  by_cases h0 : c.kind = 0
  · obtain rfl := may_zero hr h0
    have e : bytesV zeroC = encN (0 : Int).toNat := by show encs [0] = _; simp [encs]
    rw [e]
    have hN := Lib.hid (fun W => c_refN 0 W ⟨by omega, by omega⟩)
    clear e hr h0 hw6 hw7
    replace c0 : (w.alloc (.cells (crtC zeroC) 24)).cell? ⟨w.heap.size, 0, none⟩ = some (.int .i64 0) := c0
    go_enter Try.func14, Try.ntmps14
    go_upto_region 2 with (go_at_call 23; refine (hN.out _).mono ?_; unfold gives; rintro e w1 ⟨rfl, hb1⟩)
    have d0 : w1.cell? ⟨w.heap.size, 0, none⟩ = some (.int .i64 0) := (k0.below hb1 k0.lt).cell 0
    go_wp2_with fail
    go_ret
    exact ⟨rfl, nxt hb0 hb1⟩
  by_cases h1 : c.kind = 1
  · have e0 : bytesV c = encs [1, c.block, c.view, c.round, (c.sg : Int)] := by unfold bytesV numsV; rw [if_neg h0, if_pos h1]
    obtain ⟨hs, _⟩ := may_one hr h1
    have hkk := h1
    obtain ⟨p1, p2, p3, _, p4⟩ := sg_facts hs
    rw [hkk] at c0
    obtain ⟨x0, hx0⟩ : ∃ y, y = encN (1 : Int).toNat := ⟨_, rfl⟩
    obtain ⟨x1, hx1⟩ : ∃ y, y = encN (c.block).toNat := ⟨_, rfl⟩
    obtain ⟨x2, hx2⟩ : ∃ y, y = encN (c.view).toNat := ⟨_, rfl⟩
    obtain ⟨x3, hx3⟩ : ∃ y, y = encN (c.round).toNat := ⟨_, rfl⟩
    obtain ⟨x4, hx4⟩ : ∃ y, y = encN ((c.sg : Int)).toNat := ⟨_, rfl⟩
    obtain ⟨z1, hz1⟩ : ∃ y, y = x0 ++ x1 := ⟨_, rfl⟩
    obtain ⟨z2, hz2⟩ : ∃ y, y = z1 ++ x2 := ⟨_, rfl⟩
    obtain ⟨z3, hz3⟩ : ∃ y, y = z2 ++ x3 := ⟨_, rfl⟩
    obtain ⟨z4, hz4⟩ : ∃ y, y = z3 ++ x4 := ⟨_, rfl⟩
    have e : bytesV c = z4 := by rw [e0, hz4, hz3, hz2, hz1, hx0, hx1, hx2, hx3, hx4]; simp [encs]
    rw [e]
    have l0 : x0.length ≤ 9 := by rw [hx0]; exact encN_len ⟨by omega, by omega⟩
    have N0 := Lib.hid (fun W => refN_is (1 : Int) x0 W ⟨by omega, by omega⟩ hx0)
    have l1 : x1.length ≤ 9 := by rw [hx1]; exact encN_len ⟨by omega, by omega⟩
    have N1 := Lib.hid (fun W => refN_is c.block x1 W ⟨by omega, by omega⟩ hx1)
    have l2 : x2.length ≤ 9 := by rw [hx2]; exact encN_len ⟨by omega, by omega⟩
    have N2 := Lib.hid (fun W => refN_is c.view x2 W ⟨by omega, by omega⟩ hx2)
    have l3 : x3.length ≤ 9 := by rw [hx3]; exact encN_len ⟨by omega, by omega⟩
    have N3 := Lib.hid (fun W => refN_is c.round x3 W ⟨by omega, by omega⟩ hx3)
    have l4 : x4.length ≤ 9 := by rw [hx4]; exact encN_len ⟨by omega, by omega⟩
    have N4 : Hid (∀ W, Calls Try.prog 23 #[.int .i64 (wrap64 (c.sg : Int))] W (gives (.string (strOf x4)) W)) := Lib.hid (fun W => by rw [hw6]; exact refN_is (c.sg : Int) x4 W ⟨by omega, by omega⟩ hx4)
    have m1 : z1.length ≤ 18 := by rw [hz1]; exact len_app _ _ 9 9 l0 l1
    have a1 := app_ok l0 l1 (by omega)
    have s1 : strOf x0 ++ strOf x1 = strOf z1 := by rw [hz1]; exact L3.strOf_app _ _
    have m2 : z2.length ≤ 27 := by rw [hz2]; exact len_app _ _ 18 9 m1 l2
    have a2 := app_ok m1 l2 (by omega)
    have s2 : strOf z1 ++ strOf x2 = strOf z2 := by rw [hz2]; exact L3.strOf_app _ _
    have m3 : z3.length ≤ 36 := by rw [hz3]; exact len_app _ _ 27 9 m2 l3
    have a3 := app_ok m2 l3 (by omega)
    have s3 : strOf z2 ++ strOf x3 = strOf z3 := by rw [hz3]; exact L3.strOf_app _ _
    have m4 : z4.length ≤ 45 := by rw [hz4]; exact len_app _ _ 36 9 m3 l4
    have a4 := app_ok m3 l4 (by omega)
    have s4 : strOf z3 ++ strOf x4 = strOf z4 := by rw [hz4]; exact L3.strOf_app _ _
    have K0 : Hid (∀ w1, L3.Blk w1 w.heap.size 24 (crtC c) → w1.cell? ⟨w.heap.size, 0, none⟩ = some (.int .i64 1)) := Lib.hid (fun w1 k => by rw [← hkk]; exact k.cell 0)
    clear hw6 hw7 e e0 hs hkk hr h0 h1 p1 p2 p3 p4  hx0 hx1 hx2 hx3 hx4 hz1 hz2 hz3 hz4 l0 l1 l2 l3 l4 m1 m2 m3 m4
    go_enter Try.func14, Try.ntmps14
    go_upto_region 2 with (go_at_call 23; refine (N0.out _).mono ?_; unfold gives; rintro e w1 ⟨rfl, hb1⟩)
    have k1 := k0.below hb1 k0.lt
    have d0 := K0.out _ k1
    have hbA := nxt hb0 hb1
    clear c0 k0 hb0 hb1
    go_upto_region 3 with fail
    have ne2 : Nonempty (WorldIn (Below w1.heap.size w1)) := ⟨⟨w1, Below.refl _ _⟩⟩
    have y1 : ∀ y : WorldIn (Below w1.heap.size w1), y.w.cell? ⟨w.heap.size, 1, none⟩ = some (.int .i64 c.block) := fun y => (k1.below y.h k1.lt).cell 1
    have y2 : ∀ y : WorldIn (Below w1.heap.size w1), y.w.cell? ⟨w.heap.size, 2, none⟩ = some (.int .i64 c.view) := fun y => (k1.below y.h k1.lt).cell 2
    have y3 : ∀ y : WorldIn (Below w1.heap.size w1), y.w.cell? ⟨w.heap.size, 3, none⟩ = some (.int .i64 c.round) := fun y => (k1.below y.h k1.lt).cell 3
    have y6 : ∀ y : WorldIn (Below w1.heap.size w1), y.w.cell? ⟨w.heap.size, 6, none⟩ = some (.int .u32 c.sg) := fun y => (k1.below y.h k1.lt).cell 6
    refine wp_region_S (Below w1.heap.size w1) (by kernel_rfl) (by kernel_rfl) (Below.refl w1.heap.size w1).drew ?_
    iterate 3 go_big_quiet_step (fail)
    refine wpQuiet_fn rfl 23 _ _ rfl Try.call23 [.int .i64 c.block] rfl (v := .string (strOf x1)) (fun x => (N1.out x.w).mono fun e w' ⟨he, hb⟩ => ⟨he, nxt x.h hb⟩) ?_
    conv => arg 6; simp only [Act.put, List.setIfInBounds_toArray, List.set_cons_zero, List.set_cons_succ]
    iterate 3 go_big_quiet_step (fail)
    refine wpQuiet_fn rfl 23 _ _ rfl Try.call23 [.int .i64 c.view] rfl (v := .string (strOf x2)) (fun x => (N2.out x.w).mono fun e w' ⟨he, hb⟩ => ⟨he, nxt x.h hb⟩) ?_
    conv => arg 6; simp only [Act.put, List.setIfInBounds_toArray, List.set_cons_zero, List.set_cons_succ]
    iterate 3 go_big_quiet_step (fail)
    refine wpQuiet_fn rfl 23 _ _ rfl Try.call23 [.int .i64 c.round] rfl (v := .string (strOf x3)) (fun x => (N3.out x.w).mono fun e w' ⟨he, hb⟩ => ⟨he, nxt x.h hb⟩) ?_
    conv => arg 6; simp only [Act.put, List.setIfInBounds_toArray, List.set_cons_zero, List.set_cons_succ]
    iterate 4 go_big_quiet_step (fail)
    refine wpQuiet_fn rfl 23 _ _ rfl Try.call23 [.int .i64 (wrap64 (c.sg : Int))] rfl (v := .string (strOf x4)) (fun x => (N4.out x.w).mono fun e w' ⟨he, hb⟩ => ⟨he, nxt x.h hb⟩) ?_
    conv => arg 6; simp only [Act.put, List.setIfInBounds_toArray, List.set_cons_zero, List.set_cons_succ]
    iterate 2 go_big_quiet_step (fail)
    refine wpQuiet_nil ?_
    intro x
    obtain ⟨v2, hv2⟩ := x
    dsimp only
    have k2 := k1.below hv2 k1.lt
    have d2 := K0.out _ k2
    have hbB := nxt hbA hv2
    clear ne2 y1 y2 y3 y6 d0
    go_wp2_with fail
    go_ret
    exact ⟨rfl, hbB⟩
  have e0 : bytesV c = encs [2, c.block, c.view, c.round, (c.sg : Int), c.height, c.author, (c.co : Int)] := by unfold bytesV numsV; rw [if_neg h0, if_neg h1]
  obtain ⟨hkk, hs, q1, q2, q3⟩ := may_two hr h0 h1
  obtain ⟨p1, p2, p3, _, p4⟩ := sg_facts hs
  rw [hkk] at c0
  obtain ⟨x0, hx0⟩ : ∃ y, y = encN (2 : Int).toNat := ⟨_, rfl⟩
  obtain ⟨x1, hx1⟩ : ∃ y, y = encN (c.block).toNat := ⟨_, rfl⟩
  obtain ⟨x2, hx2⟩ : ∃ y, y = encN (c.view).toNat := ⟨_, rfl⟩
  obtain ⟨x3, hx3⟩ : ∃ y, y = encN (c.round).toNat := ⟨_, rfl⟩
  obtain ⟨x4, hx4⟩ : ∃ y, y = encN ((c.sg : Int)).toNat := ⟨_, rfl⟩
  obtain ⟨x5, hx5⟩ : ∃ y, y = encN (c.height).toNat := ⟨_, rfl⟩
  obtain ⟨x6, hx6⟩ : ∃ y, y = encN (c.author).toNat := ⟨_, rfl⟩
  obtain ⟨x7, hx7⟩ : ∃ y, y = encN ((c.co : Int)).toNat := ⟨_, rfl⟩
  obtain ⟨z1, hz1⟩ : ∃ y, y = x0 ++ x1 := ⟨_, rfl⟩
  obtain ⟨z2, hz2⟩ : ∃ y, y = z1 ++ x2 := ⟨_, rfl⟩
  obtain ⟨z3, hz3⟩ : ∃ y, y = z2 ++ x3 := ⟨_, rfl⟩
  obtain ⟨z4, hz4⟩ : ∃ y, y = z3 ++ x4 := ⟨_, rfl⟩
  obtain ⟨z5, hz5⟩ : ∃ y, y = z4 ++ x5 := ⟨_, rfl⟩
  obtain ⟨z6, hz6⟩ : ∃ y, y = z5 ++ x6 := ⟨_, rfl⟩
  obtain ⟨z7, hz7⟩ : ∃ y, y = z6 ++ x7 := ⟨_, rfl⟩
  have e : bytesV c = z7 := by rw [e0, hz7, hz6, hz5, hz4, hz3, hz2, hz1, hx0, hx1, hx2, hx3, hx4, hx5, hx6, hx7]; simp [encs]
  rw [e]
  have l0 : x0.length ≤ 9 := by rw [hx0]; exact encN_len ⟨by omega, by omega⟩
  have N0 := Lib.hid (fun W => refN_is (2 : Int) x0 W ⟨by omega, by omega⟩ hx0)
  have l1 : x1.length ≤ 9 := by rw [hx1]; exact encN_len ⟨by omega, by omega⟩
  have N1 := Lib.hid (fun W => refN_is c.block x1 W ⟨by omega, by omega⟩ hx1)
  have l2 : x2.length ≤ 9 := by rw [hx2]; exact encN_len ⟨by omega, by omega⟩
  have N2 := Lib.hid (fun W => refN_is c.view x2 W ⟨by omega, by omega⟩ hx2)
  have l3 : x3.length ≤ 9 := by rw [hx3]; exact encN_len ⟨by omega, by omega⟩
  have N3 := Lib.hid (fun W => refN_is c.round x3 W ⟨by omega, by omega⟩ hx3)
  have l4 : x4.length ≤ 9 := by rw [hx4]; exact encN_len ⟨by omega, by omega⟩
  have N4 : Hid (∀ W, Calls Try.prog 23 #[.int .i64 (wrap64 (c.sg : Int))] W (gives (.string (strOf x4)) W)) := Lib.hid (fun W => by rw [hw6]; exact refN_is (c.sg : Int) x4 W ⟨by omega, by omega⟩ hx4)
  have l5 : x5.length ≤ 9 := by rw [hx5]; exact encN_len ⟨by omega, by omega⟩
  have N5 := Lib.hid (fun W => refN_is c.height x5 W ⟨by omega, by omega⟩ hx5)
  have l6 : x6.length ≤ 9 := by rw [hx6]; exact encN_len ⟨by omega, by omega⟩
  have N6 := Lib.hid (fun W => refN_is c.author x6 W ⟨by omega, by omega⟩ hx6)
  have l7 : x7.length ≤ 9 := by rw [hx7]; exact encN_len ⟨by omega, by omega⟩
  have N7 : Hid (∀ W, Calls Try.prog 23 #[.int .i64 (wrap64 (c.co : Int))] W (gives (.string (strOf x7)) W)) := Lib.hid (fun W => by rw [hw7]; exact refN_is (c.co : Int) x7 W ⟨by omega, by omega⟩ hx7)
  have m1 : z1.length ≤ 18 := by rw [hz1]; exact len_app _ _ 9 9 l0 l1
  have a1 := app_ok l0 l1 (by omega)
  have s1 : strOf x0 ++ strOf x1 = strOf z1 := by rw [hz1]; exact L3.strOf_app _ _
  have m2 : z2.length ≤ 27 := by rw [hz2]; exact len_app _ _ 18 9 m1 l2
  have a2 := app_ok m1 l2 (by omega)
  have s2 : strOf z1 ++ strOf x2 = strOf z2 := by rw [hz2]; exact L3.strOf_app _ _
  have m3 : z3.length ≤ 36 := by rw [hz3]; exact len_app _ _ 27 9 m2 l3
  have a3 := app_ok m2 l3 (by omega)
  have s3 : strOf z2 ++ strOf x3 = strOf z3 := by rw [hz3]; exact L3.strOf_app _ _
  have m4 : z4.length ≤ 45 := by rw [hz4]; exact len_app _ _ 36 9 m3 l4
  have a4 := app_ok m3 l4 (by omega)
  have s4 : strOf z3 ++ strOf x4 = strOf z4 := by rw [hz4]; exact L3.strOf_app _ _
  have m5 : z5.length ≤ 54 := by rw [hz5]; exact len_app _ _ 45 9 m4 l5
  have a5 := app_ok m4 l5 (by omega)
  have s5 : strOf z4 ++ strOf x5 = strOf z5 := by rw [hz5]; exact L3.strOf_app _ _
  have m6 : z6.length ≤ 63 := by rw [hz6]; exact len_app _ _ 54 9 m5 l6
  have a6 := app_ok m5 l6 (by omega)
  have s6 : strOf z5 ++ strOf x6 = strOf z6 := by rw [hz6]; exact L3.strOf_app _ _
  have m7 : z7.length ≤ 72 := by rw [hz7]; exact len_app _ _ 63 9 m6 l7
  have a7 := app_ok m6 l7 (by omega)
  have s7 : strOf z6 ++ strOf x7 = strOf z7 := by rw [hz7]; exact L3.strOf_app _ _
  have K0 : Hid (∀ w1, L3.Blk w1 w.heap.size 24 (crtC c) → w1.cell? ⟨w.heap.size, 0, none⟩ = some (.int .i64 2)) := Lib.hid (fun w1 k => by rw [← hkk]; exact k.cell 0)
  clear hw6 hw7 e e0 hs hkk hr h0 h1 p1 p2 p3 p4 q1 q2 q3 hx0 hx1 hx2 hx3 hx4 hx5 hx6 hx7 hz1 hz2 hz3 hz4 hz5 hz6 hz7 l0 l1 l2 l3 l4 l5 l6 l7 m1 m2 m3 m4 m5 m6 m7
  go_enter Try.func14, Try.ntmps14
  go_upto_region 2 with (go_at_call 23; refine (N0.out _).mono ?_; unfold gives; rintro e w1 ⟨rfl, hb1⟩)
  have k1 := k0.below hb1 k0.lt
  have d0 := K0.out _ k1
  have hbA := nxt hb0 hb1
  clear c0 k0 hb0 hb1
  go_upto_region 3 with fail
  have ne2 : Nonempty (WorldIn (Below w1.heap.size w1)) := ⟨⟨w1, Below.refl _ _⟩⟩
  have y1 : ∀ y : WorldIn (Below w1.heap.size w1), y.w.cell? ⟨w.heap.size, 1, none⟩ = some (.int .i64 c.block) := fun y => (k1.below y.h k1.lt).cell 1
  have y2 : ∀ y : WorldIn (Below w1.heap.size w1), y.w.cell? ⟨w.heap.size, 2, none⟩ = some (.int .i64 c.view) := fun y => (k1.below y.h k1.lt).cell 2
  have y3 : ∀ y : WorldIn (Below w1.heap.size w1), y.w.cell? ⟨w.heap.size, 3, none⟩ = some (.int .i64 c.round) := fun y => (k1.below y.h k1.lt).cell 3
  have y6 : ∀ y : WorldIn (Below w1.heap.size w1), y.w.cell? ⟨w.heap.size, 6, none⟩ = some (.int .u32 c.sg) := fun y => (k1.below y.h k1.lt).cell 6
  refine wp_region_S (Below w1.heap.size w1) (by kernel_rfl) (by kernel_rfl) (Below.refl w1.heap.size w1).drew ?_
  iterate 3 go_big_quiet_step (fail)
  refine wpQuiet_fn rfl 23 _ _ rfl Try.call23 [.int .i64 c.block] rfl (v := .string (strOf x1)) (fun x => (N1.out x.w).mono fun e w' ⟨he, hb⟩ => ⟨he, nxt x.h hb⟩) ?_
  conv => arg 6; simp only [Act.put, List.setIfInBounds_toArray, List.set_cons_zero, List.set_cons_succ]
  iterate 3 go_big_quiet_step (fail)
  refine wpQuiet_fn rfl 23 _ _ rfl Try.call23 [.int .i64 c.view] rfl (v := .string (strOf x2)) (fun x => (N2.out x.w).mono fun e w' ⟨he, hb⟩ => ⟨he, nxt x.h hb⟩) ?_
  conv => arg 6; simp only [Act.put, List.setIfInBounds_toArray, List.set_cons_zero, List.set_cons_succ]
  iterate 3 go_big_quiet_step (fail)
  refine wpQuiet_fn rfl 23 _ _ rfl Try.call23 [.int .i64 c.round] rfl (v := .string (strOf x3)) (fun x => (N3.out x.w).mono fun e w' ⟨he, hb⟩ => ⟨he, nxt x.h hb⟩) ?_
  conv => arg 6; simp only [Act.put, List.setIfInBounds_toArray, List.set_cons_zero, List.set_cons_succ]
  iterate 4 go_big_quiet_step (fail)
  refine wpQuiet_fn rfl 23 _ _ rfl Try.call23 [.int .i64 (wrap64 (c.sg : Int))] rfl (v := .string (strOf x4)) (fun x => (N4.out x.w).mono fun e w' ⟨he, hb⟩ => ⟨he, nxt x.h hb⟩) ?_
  conv => arg 6; simp only [Act.put, List.setIfInBounds_toArray, List.set_cons_zero, List.set_cons_succ]
  iterate 2 go_big_quiet_step (fail)
  refine wpQuiet_nil ?_
  intro x
  obtain ⟨v2, hv2⟩ := x
  dsimp only
  have k2 := k1.below hv2 k1.lt
  have d2 := K0.out _ k2
  have hbB := nxt hbA hv2
  clear ne2 y1 y2 y3 y6 d0
  go_upto_region 5 with fail
  have ne3 : Nonempty (WorldIn (Below v2.heap.size v2)) := ⟨⟨v2, Below.refl _ _⟩⟩
  have y4 : ∀ y : WorldIn (Below v2.heap.size v2), y.w.cell? ⟨w.heap.size, 4, none⟩ = some (.int .i64 c.height) := fun y => (k2.below y.h k2.lt).cell 4
  have y5 : ∀ y : WorldIn (Below v2.heap.size v2), y.w.cell? ⟨w.heap.size, 5, none⟩ = some (.int .i64 c.author) := fun y => (k2.below y.h k2.lt).cell 5
  have y7 : ∀ y : WorldIn (Below v2.heap.size v2), y.w.cell? ⟨w.heap.size, 7, none⟩ = some (.int .u32 c.co) := fun y => (k2.below y.h k2.lt).cell 7
  refine wp_region_S (Below v2.heap.size v2) (by kernel_rfl) (by kernel_rfl) (Below.refl v2.heap.size v2).drew ?_
  iterate 3 go_big_quiet_step (fail)
  refine wpQuiet_fn rfl 23 _ _ rfl Try.call23 [.int .i64 c.height] rfl (v := .string (strOf x5)) (fun x => (N5.out x.w).mono fun e w' ⟨he, hb⟩ => ⟨he, nxt x.h hb⟩) ?_
  conv => arg 6; simp only [Act.put, List.setIfInBounds_toArray, List.set_cons_zero, List.set_cons_succ]
  iterate 3 go_big_quiet_step (fail)
  refine wpQuiet_fn rfl 23 _ _ rfl Try.call23 [.int .i64 c.author] rfl (v := .string (strOf x6)) (fun x => (N6.out x.w).mono fun e w' ⟨he, hb⟩ => ⟨he, nxt x.h hb⟩) ?_
  conv => arg 6; simp only [Act.put, List.setIfInBounds_toArray, List.set_cons_zero, List.set_cons_succ]
  iterate 4 go_big_quiet_step (fail)
  refine wpQuiet_fn rfl 23 _ _ rfl Try.call23 [.int .i64 (wrap64 (c.co : Int))] rfl (v := .string (strOf x7)) (fun x => (N7.out x.w).mono fun e w' ⟨he, hb⟩ => ⟨he, nxt x.h hb⟩) ?_
  conv => arg 6; simp only [Act.put, List.setIfInBounds_toArray, List.set_cons_zero, List.set_cons_succ]
  iterate 2 go_big_quiet_step (fail)
  refine wpQuiet_nil ?_
  intro x
  obtain ⟨v3, hv3⟩ := x
  dsimp only
  clear ne3 y4 y5 y7
  go_wp2_with fail
  go_ret
  exact ⟨rfl, nxt hbB hv3⟩
end Go.Proofs.Ytkjkkbionlmohaa
