/-
  BlockSame, walked: which blocks are the same, by the code and by the document.
-/
import Derived.Test.YtkjkkbionlmohaaDoorAlive
import Derived.Test.YtkjkkbionlmohaaDoorGreatB
import Derived.Test.YtkjkkbionlmohaaDoorRefSameH
import Derived.Test.YtkjkkbionlmohaaDoorWalkTm
set_option linter.unusedSimpArgs false
set_option linter.unusedVariables false
set_option maxRecDepth 10000
namespace Go.Proofs.YtkjkkbionlmohaaDoor
open Go.RowKit Go.Maps Go.Lib
open L3 (Blk Reads)
open L11 (Crt zeroC wpQuiet_fn)

set_option maxHeartbeats 4000000 in
set_option maxRecDepth 100000 in
theorem same_walk (a : Blo) (A : Option Addr) (c : Nat) (B : Option Addr) (d : Nat) (b : Blo) (A' : Option Addr) (c' : Nat) (B' : Option Addr) (d' : Nat) (w : World) (hra : a.raw) (hrb : b.raw)
    (pa : Rd tmL 10 w A a.proof) (ta : Rd txL 7 w B a.txs) (pb : Rd tmL 10 w A' b.proof) (tb : Rd txL 7 w B' b.txs) (hT : Tabs w) :
    Calls Tryd.prog 6 #[.agg (bloC a (.slice A a.proof.length c) (.slice B a.txs.length d)), .agg (bloC b (.slice A' b.proof.length c') (.slice B' b.txs.length d'))] w (gives (.bool true) w) := by
  have F0 := Lib.hid (twoB_mk (c := c) (d := d) (c' := c') (d' := d') pa ta pb tb)
  have HT := Lib.hid (fun w' (hb : Below w.heap.size w w') => hT.kept hb)
  have HG := Lib.hid (fun W (h : TwoB w a b A c B d A' c' B' d' W) => And.intro (greatK_any a A c B d W hra h.pa h.ta) (greatK_any b A' c' B' d' W hrb h.pb h.tb))
  have HSM := Lib.hid (And.intro (fun hg => (great_small hra hg).1) (fun hg => (great_small hrb hg).1))
  clear pa ta pb tb hT hra hrb
  go_enter Tryd.func6, Tryd.ntmps6
  go_upto_region 1 with fail
  refine name_world (fun w0 hw0 => ?_)
  have hA0 : TwoB w a b A c B d A' c' B' d' w0 := by rw [hw0]; exact F0.out
  clear hw0 F0
  have hal := alive_any w0 (HT.out _ hA0.bw)
  go_upto_region 3 with (first
    | (go_at_call 7; refine hal.mono ?_; unfold gives; rintro e w1 ⟨rfl, hb1⟩))
  have hA1 := hA0.below hb1
  clear hA0 hb1 hal HT
  have hg1 := (HG.out w1 hA1).1
  rcases Bool.eq_false_or_eq_true (greatK a) with ga | ga
  · rw [ga] at hg1
    clear ga HSM HG
    go_wp2_with (first
      | (refine wpList_row_at rfl _ _ rfl w.heap.size rfl _ _ _ _ hA1.ba Tryd.underlying28 rfl bloInfo ?_)
      | (go_at_call 8; refine hg1.mono ?_; unfold gives; rintro e w2 ⟨rfl, hb2⟩))
    go_ret
    exact ⟨rfl, nxt hA1.bw hb2⟩
  rw [ga] at hg1
  have hg2 := fun W h => (HG.out W h).2
  rcases Bool.eq_false_or_eq_true (greatK b) with gb | gb
  · rw [gb] at hg2
    have HG2 := Lib.hid hg2
    clear ga gb HSM HG hg2
    go_wp2_with (first
      | (go_at_call 8; (with_reducible refine hg1.mono ?_); unfold gives; rintro e w2 ⟨rfl, hb2⟩; have hA2 := hA1.below hb2)
      | (go_at_call 8; refine (HG2.out _ hA2).mono ?_; unfold gives; rintro e w3 ⟨rfl, hb3⟩)
      | (refine wpList_row_at rfl _ _ rfl (w.heap.size + 1) rfl _ _ _ _ hA2.bb Tryd.underlying28 rfl bloInfo ?_)
      | (refine wpList_row_at rfl _ _ rfl w.heap.size rfl _ _ _ _ hA1.ba Tryd.underlying28 rfl bloInfo ?_))
    go_ret
    exact ⟨rfl, nxt hA2.bw hb3⟩
  rw [gb] at hg2
  have HG2 := Lib.hid hg2
  have hwa := HSM.out.1 ga
  have hwb := HSM.out.2 gb
  have hsa := fun W (h : TwoB w a b A c B d A' c' B' d' W) => sameB_any a b A c B d A' c' B' d' W hwa hwb h.pa h.ta h.pb h.tb
  have hre := fun W (h : TwoB w a b A c B d A' c' B' d' W) => refsame_any a b A c B d A' c' B' d' W hwa hwb h.pa h.ta h.pb h.tb
  have hss := fun W (h : TwoB w a b A c B d A' c' B' d' W) => sameB_any a a A c B d A c B d W hwa hwa h.pa h.ta h.pa h.ta
  rw [sameV_refl] at hss
  clear ga gb HSM HG hg2 hwa hwb
  go_upto_region 5 with (first
    | (go_at_call 8; (with_reducible refine hg1.mono ?_); unfold gives; rintro e w2 ⟨rfl, hb2⟩; have hA2 := hA1.below hb2)
    | (go_at_call 8; refine (HG2.out _ hA2).mono ?_; unfold gives; rintro e w3 ⟨rfl, hb3⟩)
    | (refine wpList_row_at rfl _ _ rfl (w.heap.size + 1) rfl _ _ _ _ hA2.bb Tryd.underlying28 rfl bloInfo ?_)
    | (refine wpList_row_at rfl _ _ rfl w.heap.size rfl _ _ _ _ hA1.ba Tryd.underlying28 rfl bloInfo ?_))
  have hA3 := (hA2.below hb3).drew
  clear hA1 hA2 hb2 hb3 hg1 HG2
  rcases Bool.eq_false_or_eq_true (sameV a b) with hv | hv
  all_goals
    rw [hv] at hsa hre
    have HH := Lib.hid (And.intro hsa (And.intro hre hss))
    clear hv hsa hre hss
    refine wp_region_S (TwoB w a b A c B d A' c' B' d') (by kernel_rfl) (by kernel_rfl) hA3 ?_
    have ne : Nonempty (WorldIn (TwoB w a b A c B d A' c' B' d')) := ⟨⟨_, hA3⟩⟩
    iterate 13 (first
      | (refine wpQuiet_row rfl _ _ rfl w.heap.size rfl _ _ _ _ (fun y => y.h.ba) Tryd.underlying28 rfl bloInfo ?_
         conv => arg 6; simp only [Act.put, List.setIfInBounds_toArray, List.set_cons_zero, List.set_cons_succ])
      | (refine wpQuiet_row rfl _ _ rfl (w.heap.size + 1) rfl _ _ _ _ (fun y => y.h.bb) Tryd.underlying28 rfl bloInfo ?_
         conv => arg 6; simp only [Act.put, List.setIfInBounds_toArray, List.set_cons_zero, List.set_cons_succ])
      | (refine wpQuiet_fn rfl 19 _ _ rfl Tryd.call19 [.agg (bloC a (.slice A a.proof.length c) (.slice B a.txs.length d)), .agg (bloC b (.slice A' b.proof.length c') (.slice B' b.txs.length d'))] rfl (v := _) (fun x => (HH.out.1 x.w x.h).mono fun e w' ⟨he, hb⟩ => ⟨he, x.h.below hb⟩) ?_
         conv => arg 6; simp only [Act.put, List.setIfInBounds_toArray, List.set_cons_zero, List.set_cons_succ])
      | (refine wpQuiet_fn rfl 20 _ _ rfl Tryd.call20 [.agg (bloC a (.slice A a.proof.length c) (.slice B a.txs.length d)), .agg (bloC b (.slice A' b.proof.length c') (.slice B' b.txs.length d'))] rfl (v := _) (fun x => (HH.out.2.1 x.w x.h).mono fun e w' ⟨he, hb⟩ => ⟨he, x.h.below hb⟩) ?_
         conv => arg 6; simp only [Act.put, List.setIfInBounds_toArray, List.set_cons_zero, List.set_cons_succ])
      | (refine wpQuiet_fn rfl 19 _ _ rfl Tryd.call19 [.agg (bloC a (.slice A a.proof.length c) (.slice B a.txs.length d)), .agg (bloC a (.slice A a.proof.length c) (.slice B a.txs.length d))] rfl (v := .bool true) (fun x => (HH.out.2.2 x.w x.h).mono fun e w' ⟨he, hb⟩ => ⟨he, x.h.below hb⟩) ?_
         conv => arg 6; simp only [Act.put, List.setIfInBounds_toArray, List.set_cons_zero, List.set_cons_succ])
      | (refine wpQuiet_beq rfl _ _ _ _ rfl true true rfl rfl Tryd.underlying4 (r := true) rfl ?_
         conv => arg 6; simp only [Act.put, List.setIfInBounds_toArray, List.set_cons_zero, List.set_cons_succ])
      | (refine wpQuiet_beq rfl _ _ _ _ rfl false false rfl rfl Tryd.underlying4 (r := true) rfl ?_
         conv => arg 6; simp only [Act.put, List.setIfInBounds_toArray, List.set_cons_zero, List.set_cons_succ])
      | go_big_quiet_step (fail))
    refine wpQuiet_nil ?_
    intro x
    obtain ⟨w7, hA7⟩ := x
    dsimp only
    go_wp2
    go_ret
    exact ⟨rfl, hA7.bw⟩
end Go.Proofs.YtkjkkbionlmohaaDoor
