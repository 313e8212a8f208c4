/-
  The walk through the law of what was signed.
-/
import Derived.Test.YtkjkkbionlmohaaAlive
import Derived.Test.YtkjkkbionlmohaaStmtC
import Derived.Test.YtkjkkbionlmohaaBytesC
set_option linter.unusedSimpArgs false
set_option linter.unusedVariables false
namespace Go.Proofs.Ytkjkkbionlmohaa
open Go.RowKit Go.Lib

theorem kinds_of {c : Crt} (h : mayV c = true) (h0 : c.kind ≠ 0) : c.kind = 1 ∨ c.kind = 2 := by
  by_cases h1 : c.kind = 1
  · exact .inl h1
  · exact .inr (may_two h h0 h1).1
theorem plain_stm {a b : Crt} (h : plainV a = plainV b) : stmV a = stmV b := by
  obtain ⟨a0, a1, a2, a3, a4, a5, a6, a7⟩ := a
  obtain ⟨b0, b1, b2, b3, b4, b5, b6, b7⟩ := b
  simp only [plainV, Crt.mk.injEq, and_true] at h
  obtain ⟨rfl, rfl, rfl, rfl, rfl, rfl⟩ := h
  rfl
theorem stm_plain {a b : Crt} (ha : mayV a = true) (hb : mayV b = true) (h0 : a.kind ≠ 0) (h1 : b.kind ≠ 0) (h : stmV a = stmV b) : plainV a = plainV b := by
  rcases kinds_of ha h0 with ka | ka <;> rcases kinds_of hb h1 with kb | kb
  · obtain ⟨_, x1, x2, _⟩ := may_one ha ka
    obtain ⟨_, y1, y2, _⟩ := may_one hb kb
    unfold stmV at h
    rw [if_pos ka, if_pos kb] at h
    simp only [Stm.mk.injEq, true_and, and_true] at h
    obtain ⟨e1, e2, e3⟩ := h
    unfold plainV
    rw [ka, kb, x1, x2, y1, y2, e1, e2, e3]
  · unfold stmV at h
    rw [if_pos ka, if_neg (by omega), if_pos kb] at h
    simp at h
  · unfold stmV at h
    rw [if_neg (by omega), if_pos ka, if_pos kb] at h
    simp at h
  · unfold stmV at h
    rw [if_neg (by omega), if_pos ka, if_neg (by omega), if_pos kb] at h
    simp only [Stm.mk.injEq, true_and, and_true] at h
    obtain ⟨e1, e2, e3, e4, e5⟩ := h
    unfold plainV
    rw [ka, kb, e1, e2, e3, e4, e5]
theorem compare_same (x : Int) : compareInt x x = 0 := by unfold compareInt; simp
theorem plain_cmp {a b : Crt} (h : plainV a = plainV b) : cmpV a b = 0 := by
  obtain ⟨a0, a1, a2, a3, a4, a5, a6, a7⟩ := a
  obtain ⟨b0, b1, b2, b3, b4, b5, b6, b7⟩ := b
  simp only [plainV, Crt.mk.injEq, and_true] at h
  obtain ⟨rfl, rfl, rfl, rfl, rfl, rfl⟩ := h
  unfold cmpV
  simp only [upV, compare_same]
  simp
theorem same_eq {a b : Crt} (ha : mayV a = true) (hb : mayV b = true) (h0 : a.kind ≠ 0) (h1 : b.kind ≠ 0) : decide (stmV a = stmV b) = decide (plainV a = plainV b) := by
  rw [Bool.eq_iff_iff, decide_eq_true_eq, decide_eq_true_eq]
  exact ⟨stm_plain ha hb h0 h1, plain_stm⟩
theorem kind_no {k : Int} (h : (!decide (k = 0)) = true) : (k == 0) = false ∧ k ≠ 0 := by
  have : k ≠ 0 := by simpa using h
  exact ⟨by simpa using this, this⟩
set_option maxHeartbeats 4000000 in
set_option maxRecDepth 100000 in
theorem stmts_walk (a b : Crt) (w : World) (ha : a.wf) (hb : b.wf) : Calls Try.prog 5 #[.agg (crtC a), .agg (crtC b)] w (gives (.bool true) w) := by
  have hZ := Lib.hid (arg_mk w a b)
  have hca := fun W => check_any a W ha
  have hcb := fun W => check_any b W hb
  rcases five (mayV a) (mayV b) (!decide (a.kind = 0)) (!decide (b.kind = 0)) true with x | ⟨x, y⟩ | ⟨x, y, z⟩ | ⟨x, y, z, u⟩ | ⟨x, y, z, u, v⟩ | ⟨x, y, z, u, v⟩
  case inr.inr.inr.inr.inl => cases v
  case inr.inr.inr.inr.inr =>
    obtain ⟨z1, z2⟩ := kind_no z
    obtain ⟨u1, u2⟩ := kind_no u
    rw [x] at hca
    rw [y] at hcb
    have hse := same_eq x y z2 u2
    have hcm := plain_cmp (a := a) (b := b)
    have hpe := fun W => eqlC (plainV_wf ha) (plainV_wf hb) W
    have hme := fun W => eqlM (stmV_wf ha) (stmV_wf hb) W
    have hcp := fun W => cmp_any a b W
    rw [hse] at hme
    obtain ⟨s, hs⟩ : ∃ s, s = decide (plainV a = plainV b) := ⟨_, rfl⟩
    rw [← hs] at hpe hme
    have hc0 : s = true → cmpV a b = 0 := fun h => hcm (by rw [hs] at h; exact of_decide_eq_true h)
    obtain ⟨m, hm⟩ : ∃ m, m = cmpV a b := ⟨_, rfl⟩
    rw [← hm] at hcp hc0
    have HC := Lib.hid (And.intro hca (And.intro hcb (And.intro hpe (And.intro hme hcp))))
    have HC0 := Lib.hid hc0
    clear hca hcb hpe hme hcp hse hcm hs hm hc0 x y z u v z2 u2 ha hb
    go_enter Try.func5, Try.ntmps5
    go_upto_region 1 with fail
    refine name_world (fun w0 hw0 => ?_)
    have hA0 : ArgAt w a b w0 := by rw [hw0]; exact hZ.out
    clear hw0 hZ
    go_upto_region 5 with (first
      | (go_at_call 6; refine (alive_any _).mono ?_; unfold gives; rintro e w1 ⟨rfl, hb1⟩; have hA1 := hA0.below hb1)
      | (refine wpList_row_at rfl _ _ rfl w.heap.size rfl _ _ _ _ hA1.ba Try.underlying24 rfl crtInfo ?_)
      | (go_at_call 13; (with_reducible refine (HC.out.1 _).mono ?_); unfold gives errI; rintro e w2 ⟨rfl, hb2⟩; have hA2 := hA1.below hb2)
      | (refine wpList_row_at rfl _ _ rfl (w.heap.size + 1) rfl _ _ _ _ hA2.bb Try.underlying24 rfl crtInfo ?_)
      | (go_at_call 13; (with_reducible refine (HC.out.2.1 _).mono ?_); unfold gives errI; rintro e w3 ⟨rfl, hb3⟩; have hA3 := hA2.below hb3; have ca : w3.cell? ⟨w.heap.size, 0, none⟩ = some (.int .i64 a.kind) := hA3.ba.cell 0; have cb : w3.cell? ⟨w.heap.size + 1, 0, none⟩ = some (.int .i64 b.kind) := hA3.bb.cell 0))
    have hd3 : ArgAt w a b w3.drew := ⟨hA3.ba.drew, hA3.bb.drew, hA3.bw.drew⟩
    have ne : Nonempty (WorldIn (ArgAt w a b)) := ⟨⟨_, hd3⟩⟩
    clear ca cb hA0 hA1 hA2 hb1 hb2 hb3 z1 u1
    refine wp_region_S (ArgAt w a b) (by kernel_rfl) (by kernel_rfl) hd3 ?_
    refine wpQuiet_row rfl _ _ rfl w.heap.size rfl _ _ _ _ (fun y => y.h.ba) Try.underlying24 rfl crtInfo ?_
    conv => arg 6; simp only [Act.put, List.setIfInBounds_toArray, List.set_cons_zero, List.set_cons_succ]
    refine wpQuiet_fn rfl 10 _ _ rfl Try.call10 [.agg (crtC a)] rfl (v := .agg (crtC (plainV a))) (fun x => (plain_any a x.w).mono fun e w' ⟨he, hb⟩ => ⟨he, x.h.below hb⟩) ?_
    conv => arg 6; simp only [Act.put, List.setIfInBounds_toArray, List.set_cons_zero, List.set_cons_succ]
    refine wpQuiet_row rfl _ _ rfl (w.heap.size + 1) rfl _ _ _ _ (fun y => y.h.bb) Try.underlying24 rfl crtInfo ?_
    conv => arg 6; simp only [Act.put, List.setIfInBounds_toArray, List.set_cons_zero, List.set_cons_succ]
    refine wpQuiet_fn rfl 10 _ _ rfl Try.call10 [.agg (crtC b)] rfl (v := .agg (crtC (plainV b))) (fun x => (plain_any b x.w).mono fun e w' ⟨he, hb⟩ => ⟨he, x.h.below hb⟩) ?_
    conv => arg 6; simp only [Act.put, List.setIfInBounds_toArray, List.set_cons_zero, List.set_cons_succ]
    refine wpQuiet_binop rfl _ _ _ _ _ rfl (crtC (plainV a)) (crtC (plainV b)) rfl rfl (by kernel_rfl) (fun W => HC.out.2.2.1 W) ?_
    conv => arg 6; simp only [Act.put, List.setIfInBounds_toArray, List.set_cons_zero, List.set_cons_succ]
    iterate 1 go_big_quiet_step (fail)
    refine wpQuiet_nil ?_
    intro x
    obtain ⟨w4, hA4⟩ := x
    dsimp only
    have hd4 : ArgAt w a b w4.drew := ⟨hA4.ba.drew, hA4.bb.drew, hA4.bw.drew⟩
    clear hA3 hd3
    rcases Bool.eq_false_or_eq_true s with hs | hs
    · have hme := HC.out.2.2.2.1
      have hcp := HC.out.2.2.2.2
      have hm0 := HC0.out hs
      rw [hm0] at hcp
      rw [hs] at hme
      subst hs
      have HE := Lib.hid hme
      have HP := Lib.hid hcp
      clear hme hcp HC HC0 hm0
      go_upto_region 6 with fail
      refine wp_region_S (ArgAt w a b) (by kernel_rfl) (by kernel_rfl) hd4 ?_
      refine wpQuiet_row rfl _ _ rfl w.heap.size rfl _ _ _ _ (fun y => y.h.ba) Try.underlying24 rfl crtInfo ?_
      conv => arg 6; simp only [Act.put, List.setIfInBounds_toArray, List.set_cons_zero, List.set_cons_succ]
      refine wpQuiet_fn rfl 8 _ _ rfl Try.call8 [.agg (crtC a)] rfl (v := .agg (stmC (stmV a))) (fun x => (stmt_any a x.w).mono fun e w' ⟨he, hb⟩ => ⟨he, x.h.below hb⟩) ?_
      conv => arg 6; simp only [Act.put, List.setIfInBounds_toArray, List.set_cons_zero, List.set_cons_succ]
      refine wpQuiet_row rfl _ _ rfl (w.heap.size + 1) rfl _ _ _ _ (fun y => y.h.bb) Try.underlying24 rfl crtInfo ?_
      conv => arg 6; simp only [Act.put, List.setIfInBounds_toArray, List.set_cons_zero, List.set_cons_succ]
      refine wpQuiet_fn rfl 8 _ _ rfl Try.call8 [.agg (crtC b)] rfl (v := .agg (stmC (stmV b))) (fun x => (stmt_any b x.w).mono fun e w' ⟨he, hb⟩ => ⟨he, x.h.below hb⟩) ?_
      conv => arg 6; simp only [Act.put, List.setIfInBounds_toArray, List.set_cons_zero, List.set_cons_succ]
      refine wpQuiet_binop rfl _ _ _ _ _ rfl (stmC (stmV a)) (stmC (stmV b)) rfl rfl (by kernel_rfl) (fun W => HE.out W) ?_
      conv => arg 6; simp only [Act.put, List.setIfInBounds_toArray, List.set_cons_zero, List.set_cons_succ]
      iterate 6 go_big_quiet_step (fail)
      refine wpQuiet_row rfl _ _ rfl w.heap.size rfl _ _ _ _ (fun y => y.h.ba) Try.underlying24 rfl crtInfo ?_
      conv => arg 6; simp only [Act.put, List.setIfInBounds_toArray, List.set_cons_zero, List.set_cons_succ]
      refine wpQuiet_row rfl _ _ rfl (w.heap.size + 1) rfl _ _ _ _ (fun y => y.h.bb) Try.underlying24 rfl crtInfo ?_
      conv => arg 6; simp only [Act.put, List.setIfInBounds_toArray, List.set_cons_zero, List.set_cons_succ]
      refine wpQuiet_fn rfl 18 _ _ rfl Try.call18 [.agg (crtC a), .agg (crtC b)] rfl (v := .int .i64 0) (fun x => (HP.out x.w).mono fun e w' ⟨he, hb⟩ => ⟨he, x.h.below hb⟩) ?_
      conv => arg 6; simp only [Act.put, List.setIfInBounds_toArray, List.set_cons_zero, List.set_cons_succ]
      iterate 4 go_big_quiet_step (fail)
      refine wpQuiet_nil ?_
      intro x
      obtain ⟨w5, hA5⟩ := x
      dsimp only
      go_wp2
      go_ret
      exact ⟨rfl, hA5.bw⟩
    · have hme := HC.out.2.2.2.1
      have hcp := HC.out.2.2.2.2
      rw [hs] at hme
      subst hs
      have HE := Lib.hid hme
      have HP := Lib.hid hcp
      clear hme hcp HC HC0
      go_upto_region 6 with fail
      refine wp_region_S (ArgAt w a b) (by kernel_rfl) (by kernel_rfl) hd4 ?_
      refine wpQuiet_row rfl _ _ rfl w.heap.size rfl _ _ _ _ (fun y => y.h.ba) Try.underlying24 rfl crtInfo ?_
      conv => arg 6; simp only [Act.put, List.setIfInBounds_toArray, List.set_cons_zero, List.set_cons_succ]
      refine wpQuiet_fn rfl 8 _ _ rfl Try.call8 [.agg (crtC a)] rfl (v := .agg (stmC (stmV a))) (fun x => (stmt_any a x.w).mono fun e w' ⟨he, hb⟩ => ⟨he, x.h.below hb⟩) ?_
      conv => arg 6; simp only [Act.put, List.setIfInBounds_toArray, List.set_cons_zero, List.set_cons_succ]
      refine wpQuiet_row rfl _ _ rfl (w.heap.size + 1) rfl _ _ _ _ (fun y => y.h.bb) Try.underlying24 rfl crtInfo ?_
      conv => arg 6; simp only [Act.put, List.setIfInBounds_toArray, List.set_cons_zero, List.set_cons_succ]
      refine wpQuiet_fn rfl 8 _ _ rfl Try.call8 [.agg (crtC b)] rfl (v := .agg (stmC (stmV b))) (fun x => (stmt_any b x.w).mono fun e w' ⟨he, hb⟩ => ⟨he, x.h.below hb⟩) ?_
      conv => arg 6; simp only [Act.put, List.setIfInBounds_toArray, List.set_cons_zero, List.set_cons_succ]
      refine wpQuiet_binop rfl _ _ _ _ _ rfl (stmC (stmV a)) (stmC (stmV b)) rfl rfl (by kernel_rfl) (fun W => HE.out W) ?_
      conv => arg 6; simp only [Act.put, List.setIfInBounds_toArray, List.set_cons_zero, List.set_cons_succ]
      iterate 13 go_big_quiet_step (fail)
      refine wpQuiet_nil ?_
      intro x
      obtain ⟨w5, hA5⟩ := x
      dsimp only
      go_wp2
      go_ret
      exact ⟨rfl, hA5.bw⟩
  all_goals
    first | rw [x] at hca | skip
    first | rw [y] at hcb | skip
    have HC := Lib.hid (And.intro hca hcb)
    clear hca hcb ha hb x
    first | clear y | skip
  case inl =>
    go_enter Try.func5, Try.ntmps5
    go_upto_region 1 with fail
    refine name_world (fun w0 hw0 => ?_)
    have hA0 : ArgAt w a b w0 := by rw [hw0]; exact hZ.out
    clear hw0 hZ
    go_wp2_with (first
      | (go_at_call 6; refine (alive_any _).mono ?_; unfold gives; rintro e w1 ⟨rfl, hb1⟩; have hA1 := hA0.below hb1)
      | (refine wpList_row_at rfl _ _ rfl w.heap.size rfl _ _ _ _ hA1.ba Try.underlying24 rfl crtInfo ?_)
      | (go_at_call 13; (with_reducible refine (HC.out.1 _).mono ?_); unfold gives errI; rintro e w2 ⟨rfl, hb2⟩; have hA2 := hA1.below hb2))
    go_ret
    exact ⟨rfl, hA2.bw⟩
  case inr.inl =>
    go_enter Try.func5, Try.ntmps5
    go_upto_region 1 with fail
    refine name_world (fun w0 hw0 => ?_)
    have hA0 : ArgAt w a b w0 := by rw [hw0]; exact hZ.out
    clear hw0 hZ
    go_wp2_with (first
      | (go_at_call 6; refine (alive_any _).mono ?_; unfold gives; rintro e w1 ⟨rfl, hb1⟩; have hA1 := hA0.below hb1)
      | (refine wpList_row_at rfl _ _ rfl w.heap.size rfl _ _ _ _ hA1.ba Try.underlying24 rfl crtInfo ?_)
      | (go_at_call 13; (with_reducible refine (HC.out.1 _).mono ?_); unfold gives errI; rintro e w2 ⟨rfl, hb2⟩; have hA2 := hA1.below hb2)
      | (refine wpList_row_at rfl _ _ rfl (w.heap.size + 1) rfl _ _ _ _ hA2.bb Try.underlying24 rfl crtInfo ?_)
      | (go_at_call 13; (with_reducible refine (HC.out.2 _).mono ?_); unfold gives errI; rintro e w3 ⟨rfl, hb3⟩; have hA3 := hA2.below hb3))
    go_ret
    exact ⟨rfl, hA3.bw⟩
  case inr.inr.inl =>
    have z1 : a.kind = 0 := by simpa using z
    go_enter Try.func5, Try.ntmps5
    go_upto_region 1 with fail
    refine name_world (fun w0 hw0 => ?_)
    have hA0 : ArgAt w a b w0 := by rw [hw0]; exact hZ.out
    clear hw0 hZ
    go_wp2_with (first
      | (go_at_call 6; refine (alive_any _).mono ?_; unfold gives; rintro e w1 ⟨rfl, hb1⟩; have hA1 := hA0.below hb1)
      | (refine wpList_row_at rfl _ _ rfl w.heap.size rfl _ _ _ _ hA1.ba Try.underlying24 rfl crtInfo ?_)
      | (go_at_call 13; (with_reducible refine (HC.out.1 _).mono ?_); unfold gives errI; rintro e w2 ⟨rfl, hb2⟩; have hA2 := hA1.below hb2)
      | (refine wpList_row_at rfl _ _ rfl (w.heap.size + 1) rfl _ _ _ _ hA2.bb Try.underlying24 rfl crtInfo ?_)
      | (go_at_call 13; (with_reducible refine (HC.out.2 _).mono ?_); unfold gives errI; rintro e w3 ⟨rfl, hb3⟩; have hA3 := hA2.below hb3; have ca : w3.cell? ⟨w.heap.size, 0, none⟩ = some (.int .i64 0) := by rw [← z1]; exact hA3.ba.cell 0))
    go_ret
    exact ⟨rfl, hA3.bw⟩
  case inr.inr.inr.inl =>
    obtain ⟨z1, z2⟩ := kind_no z
    have u1 : b.kind = 0 := by simpa using u
    clear z z2 u
    go_enter Try.func5, Try.ntmps5
    go_upto_region 1 with fail
    refine name_world (fun w0 hw0 => ?_)
    have hA0 : ArgAt w a b w0 := by rw [hw0]; exact hZ.out
    clear hw0 hZ
    go_wp2_with (first
      | (go_at_call 6; refine (alive_any _).mono ?_; unfold gives; rintro e w1 ⟨rfl, hb1⟩; have hA1 := hA0.below hb1)
      | (refine wpList_row_at rfl _ _ rfl w.heap.size rfl _ _ _ _ hA1.ba Try.underlying24 rfl crtInfo ?_)
      | (go_at_call 13; (with_reducible refine (HC.out.1 _).mono ?_); unfold gives errI; rintro e w2 ⟨rfl, hb2⟩; have hA2 := hA1.below hb2)
      | (refine wpList_row_at rfl _ _ rfl (w.heap.size + 1) rfl _ _ _ _ hA2.bb Try.underlying24 rfl crtInfo ?_)
      | (go_at_call 13; (with_reducible refine (HC.out.2 _).mono ?_); unfold gives errI; rintro e w3 ⟨rfl, hb3⟩; have hA3 := hA2.below hb3; have ca : w3.cell? ⟨w.heap.size, 0, none⟩ = some (.int .i64 a.kind) := hA3.ba.cell 0; have cb : w3.cell? ⟨w.heap.size + 1, 0, none⟩ = some (.int .i64 0) := by rw [← u1]; exact hA3.bb.cell 0))
    go_ret
    exact ⟨rfl, hA3.bw⟩
end Go.Proofs.Ytkjkkbionlmohaa
