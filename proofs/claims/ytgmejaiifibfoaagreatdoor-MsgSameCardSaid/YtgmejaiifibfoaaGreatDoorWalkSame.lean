/-
  MsgSame, walked: which messages are the same, by the code and by the document.
-/
import Derived.Test.YtgmejaiifibfoaaGreatDoorM9
import Derived.Test.YtgmejaiifibfoaaGreatDoorR4
import Derived.Test.YtgmejaiifibfoaaGreatDoorWalkTm
set_option linter.unusedSimpArgs false
set_option linter.unusedVariables false
set_option maxRecDepth 10000
namespace Go.Proofs.YtgmejaiifibfoaaGreatDoor
open Go.RowKit Go.Maps Go.Lib
open L3 (Blk Reads)
open L11 (Crt zeroC mayV wpQuiet_fn)

theorem TwoR.drew {w W : World} {a b : Mes} {P Q T P' Q' T' : Value} (h : TwoR w a b P Q T P' Q' T' W) : TwoR w a b P Q T P' Q' T' W.drew := h.below (Below.refl _ W).drew
set_option maxHeartbeats 4000000 in
set_option maxRecDepth 100000 in
theorem same_walk (a : Mes) (P Q T : Value) (b : Mes) (P' Q' T' : Value) (w : World) (ra : a.raw) (rb : b.raw) (la : LiesM w a P Q T) (lb : LiesM w b P' Q' T') (hT : Tabs w) :
    Calls Tryz.prog 4 #[.agg (mesC a P Q T), .agg (mesC b P' Q' T')] w (gives (.bool true) w) := by
  have F0 := Lib.hid (twoR_mk la lb)
  have HT := Lib.hid (fun w' (hb : Below w.heap.size w w') => hT.kept hb)
  have HG1 := Lib.hid (fun W (h : LiesM W a P Q T) => greatM_any a P Q T W ra h)
  have HG2 := Lib.hid (fun W (h : LiesM W b P' Q' T') => greatM_any b P' Q' T' W rb h)
  have HS1 := Lib.hid (fun hg => greatM_small ra hg)
  have HS2 := Lib.hid (fun hg => greatM_small rb hg)
  clear la lb hT ra rb
  go_enter Tryz.func4, Tryz.ntmps4
  go_upto_region 1 with fail
  refine name_world (fun w0 hw0 => ?_)
  have hA0 : TwoR w a b P Q T P' Q' T' w0 := by rw [hw0]; exact F0.out
  clear hw0 F0
  have hal := aliveM_any w0 (HT.out _ hA0.bw)
  go_upto_region 3 with (first
    | (go_at_call 5; refine hal.mono ?_; unfold gives; rintro e w1 ⟨rfl, hb1⟩))
  have hA1 := hA0.below hb1
  clear hA0 hb1 hal
  have hg1 := HG1.out w1 hA1.la
  rcases Bool.eq_false_or_eq_true (greatM a) with hg | hg
  · rw [hg] at hg1
    clear hg HS1 HS2 HG1 HG2
    go_wp2_with (first
      | (refine wpList_row_at rfl _ _ rfl w.heap.size rfl _ _ _ _ hA1.ba Tryz.underlying34 rfl mesInfoR ?_)
      | (go_at_call 6; (with_reducible refine hg1.mono ?_); unfold gives; rintro e w2 ⟨rfl, hb2⟩))
    go_ret
    exact ⟨rfl, nxt hA1.bw hb2⟩
  have ha := HS1.out hg
  rw [hg] at hg1
  clear hg HS1 HG1
  rcases Bool.eq_false_or_eq_true (greatM b) with hg | hg
  · have hg2 := fun W (h : LiesM W b P' Q' T') => HG2.out W h
    rw [hg] at hg2
    have HG := Lib.hid hg2
    clear hg HS2 HG2 hg2 ha
    go_wp2_with (first
      | (refine wpList_row_at rfl _ _ rfl w.heap.size rfl _ _ _ _ hA1.ba Tryz.underlying34 rfl mesInfoR ?_)
      | (go_at_call 6; (with_reducible refine hg1.mono ?_); unfold gives; rintro e w2 ⟨rfl, hb2⟩; have hA2 := hA1.below hb2; have hg3 := HG.out w2 hA2.lb)
      | (refine wpList_row_at rfl _ _ rfl (w.heap.size + 1) rfl _ _ _ _ hA2.bb Tryz.underlying34 rfl mesInfoR ?_)
      | (go_at_call 6; (with_reducible refine hg3.mono ?_); unfold gives; rintro e w3 ⟨rfl, hb3⟩))
    go_ret
    exact ⟨rfl, nxt hA2.bw hb3⟩
  have hb := HS2.out hg
  have hg2 := fun W (h : LiesM W b P' Q' T') => HG2.out W h
  rw [hg] at hg2
  have HG := Lib.hid hg2
  have HAB := Lib.hid (And.intro ha hb)
  clear hg HS2 HG2 hg2 ha hb
  go_upto_region 5 with (first
    | (refine wpList_row_at rfl _ _ rfl w.heap.size rfl _ _ _ _ hA1.ba Tryz.underlying34 rfl mesInfoR ?_)
    | (go_at_call 6; (with_reducible refine hg1.mono ?_); unfold gives; rintro e w2 ⟨rfl, hb2⟩; have hA2 := hA1.below hb2; have hg3 := HG.out w2 hA2.lb)
    | (refine wpList_row_at rfl _ _ rfl (w.heap.size + 1) rfl _ _ _ _ hA2.bb Tryz.underlying34 rfl mesInfoR ?_)
    | (go_at_call 6; (with_reducible refine hg3.mono ?_); unfold gives; rintro e w3 ⟨rfl, hb3⟩))
  have hC := (hA2.below hb3).drew
  clear hA1 hA2 hb2 hb3 hg1 hg3 HG
  have hs1 := fun W (la : LiesM W a P Q T) (lb : LiesM W b P' Q' T') => sameM_any a b P Q T P' Q' T' W HAB.out.1 HAB.out.2 la lb
  have hs2 := fun W (la : LiesM W a P Q T) (lb : LiesM W b P' Q' T') => refSm_any a b P Q T P' Q' T' W HAB.out.1 HAB.out.2 la lb
  have hs3 := fun W (la : LiesM W a P Q T) => sameM_any a a P Q T P Q T W HAB.out.1 HAB.out.1 la la
  obtain ⟨r, hr⟩ : ∃ r, r = sameMV a b := ⟨_, rfl⟩
  rw [← hr] at hs1 hs2
  rw [sameMV_refl] at hs3
  have HS1 := Lib.hid hs1
  have HS2 := Lib.hid hs2
  have HS3 := Lib.hid hs3
  clear hs1 hs2 hs3 hr HAB
  have ne : Nonempty (WorldIn (TwoR w a b P Q T P' Q' T')) := ⟨⟨_, hC⟩⟩
  cases r
  all_goals
    refine wp_region_S (TwoR w a b P Q T P' Q' T') (by kernel_rfl) (by kernel_rfl) hC ?_
    clear hC
    iterate 13 (first
      | (refine wpQuiet_row rfl _ _ rfl w.heap.size rfl _ _ _ _ (fun y => y.h.ba) Tryz.underlying34 rfl mesInfoR ?_
         conv => arg 6; simp only [Act.put, List.setIfInBounds_toArray, List.set_cons_zero, List.set_cons_succ])
      | (refine wpQuiet_row rfl _ _ rfl (w.heap.size + 1) rfl _ _ _ _ (fun y => y.h.bb) Tryz.underlying34 rfl mesInfoR ?_
         conv => arg 6; simp only [Act.put, List.setIfInBounds_toArray, List.set_cons_zero, List.set_cons_succ])
      | (refine wpQuiet_fn rfl 11 _ _ rfl Tryz.call11 [.agg (mesC a P Q T), .agg (mesC b P' Q' T')] rfl (v := .bool _) (fun x => (HS1.out x.w x.h.la x.h.lb).mono fun e w' ⟨he, hb⟩ => ⟨he, x.h.below hb⟩) ?_
         conv => arg 6; simp only [Act.put, List.setIfInBounds_toArray, List.set_cons_zero, List.set_cons_succ])
      | (refine wpQuiet_fn rfl 12 _ _ rfl Tryz.call12 [.agg (mesC a P Q T), .agg (mesC b P' Q' T')] rfl (v := .bool _) (fun x => (HS2.out x.w x.h.la x.h.lb).mono fun e w' ⟨he, hb⟩ => ⟨he, x.h.below hb⟩) ?_
         conv => arg 6; simp only [Act.put, List.setIfInBounds_toArray, List.set_cons_zero, List.set_cons_succ])
      | (refine wpQuiet_fn rfl 11 _ _ rfl Tryz.call11 [.agg (mesC a P Q T), .agg (mesC a P Q T)] rfl (v := .bool true) (fun x => (HS3.out x.w x.h.la).mono fun e w' ⟨he, hb⟩ => ⟨he, x.h.below hb⟩) ?_
         conv => arg 6; simp only [Act.put, List.setIfInBounds_toArray, List.set_cons_zero, List.set_cons_succ])
      | (refine wpQuiet_beq rfl _ _ _ _ rfl false false rfl rfl Tryz.underlying4 (r := true) rfl ?_
         conv => arg 6; simp only [Act.put, List.setIfInBounds_toArray, List.set_cons_zero, List.set_cons_succ])
      | (refine wpQuiet_beq rfl _ _ _ _ rfl true true rfl rfl Tryz.underlying4 (r := true) rfl ?_
         conv => arg 6; simp only [Act.put, List.setIfInBounds_toArray, List.set_cons_zero, List.set_cons_succ])
      | go_big_quiet_step (fail))
    refine wpQuiet_nil ?_
    intro x
    obtain ⟨w7, hA7⟩ := x
    dsimp only
    clear ne
    go_wp2
    go_ret
    exact ⟨rfl, hA7.bw⟩
end Go.Proofs.YtgmejaiifibfoaaGreatDoor
