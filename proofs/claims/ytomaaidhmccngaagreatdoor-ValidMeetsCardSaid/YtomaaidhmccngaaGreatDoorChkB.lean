/-
  Which blocks may be, by the code: the error of any.
-/
import Derived.Test.YtomaaidhmccngaaGreatDoorCheckB
import Derived.Test.YtomaaidhmccngaaGreatDoorProB
set_option linter.unusedSimpArgs false
set_option linter.unusedVariables false
set_option maxRecDepth 10000
namespace Go.Proofs.YtomaaidhmccngaaGreatDoor
open Go.RowKit Go.Maps Go.Lib
open L3 (Blk Reads)
open L11 (Crt zeroC crtL crtC mayV okW crtInfo crtC_ones endV)

/-- What is held while a block is looked at. -/
structure ChkAt (w : World) (b : Blo) (A : Option Addr) (c : Nat) (B : Option Addr) (d : Nat) (W : World) : Prop where
  bb : Blk W w.heap.size 57 (bloC b (.slice A b.proof.length c) (.slice B b.txs.length d))
  rp : Rd tmL 10 W A b.proof
  rt : Rd txL 7 W B b.txs
  tb : Tabs W
  bw : Below w.heap.size w W
section
variable {w W W' : World} {b : Blo} {A : Option Addr} {c : Nat} {B : Option Addr} {d : Nat}
theorem ChkAt.below (h : ChkAt w b A c B d W) (hb : Below W.heap.size W W') : ChkAt w b A c B d W' := ⟨h.bb.below hb h.bb.lt, h.rp.below hb, h.rt.below hb, h.tb.kept hb, nxt h.bw hb⟩
theorem ChkAt.cells (h : ChkAt w b A c B d W) : W.cell? ⟨w.heap.size, 0, none⟩ = some (.int .i64 b.view) ∧ W.cell? ⟨w.heap.size, 1, none⟩ = some (.int .i64 b.round) ∧ W.cell? ⟨w.heap.size, 2, none⟩ = some (.int .i64 b.height) ∧ W.cell? ⟨w.heap.size, 3, none⟩ = some (.int .i64 b.author) ∧
    W.cell? ⟨w.heap.size, 7, none⟩ = some (.int .i64 b.par.round) ∧ W.cell? ⟨w.heap.size, 13, none⟩ = some (.slice B b.txs.length d) :=
  ⟨h.bb.cell 0, h.bb.cell 1, h.bb.cell 2, h.bb.cell 3, h.bb.cell 7, h.bb.cell 13⟩
theorem chk_mk (hp : Rd tmL 10 w A b.proof) (ht : Rd txL 7 w B b.txs) (hT : Tabs w) : ChkAt w b A c B d (w.alloc (.cells (bloC b (.slice A b.proof.length c) (.slice B b.txs.length d)) 57)) :=
  ⟨blo_new _ _ _ _ _, hp.below (below_new _ _), ht.below (below_new _ _), hT.kept (below_new _ _), below_new _ _⟩
end
theorem checkV_head {b : Blo} (h : headV b = false) : checkV b = 120 := by unfold checkV; rw [if_pos h]
theorem checkV_par {b : Blo} (h : headV b = true) (h2 : parentV b = false) : checkV b = 122 := by unfold checkV; rw [if_neg (by rw [h]; simp), if_pos h2]
theorem checkV_pro {b : Blo} (h : headV b = true) (h2 : parentV b = true) (h3 : provenV b = false) : checkV b = 121 := by unfold checkV; rw [if_neg (by rw [h]; simp), if_neg (by rw [h2]; simp), if_pos h3]
theorem checkV_ok {b : Blo} (h : headV b = true) (h2 : parentV b = true) (h3 : provenV b = true) : checkV b = 0 := by unfold checkV; rw [if_neg (by rw [h]; simp), if_neg (by rw [h2]; simp), if_neg (by rw [h3]; simp)]
set_option maxHeartbeats 4000000 in
set_option maxRecDepth 100000 in
theorem chk_any (b : Blo) (A : Option Addr) (c : Nat) (B : Option Addr) (d : Nat) (w : World) (hw : b.wf) (hp : Rd tmL 10 w A b.proof) (ht : Rd txL 7 w B b.txs) (hT : Tabs w) :
    Calls Tryz.prog 137 #[.agg (bloC b (.slice A b.proof.length c) (.slice B b.txs.length d))] w (gives (.int .i64 (checkV b)) w) := by
  have F0 := Lib.hid (chk_mk (c := c) (d := d) hp ht hT)
  have hcr := fun W r (h : Tabs W) (h2 : Rd txL 7 W B b.txs) hr => right_is B d b.txs r W hw.txs h h2 (by have := hw.nt; omega) hr
  have HCR := Lib.hid hcr
  have HW := Lib.hid hw
  have e : headV b = (okW b.view 1 1048576 && okW b.author 0 9 && okW b.height 0 3 && rightL b.txs) := rfl
  clear hcr hw hp ht hT
  go_enter Tryz.func137, Tryz.ntmps137
  go_upto_region 1 with fail
  refine name_world (fun w0 hw0 => ?_)
  have hA : ChkAt w b A c B d w0 := by rw [hw0]; exact F0.out
  clear hw0 F0
  obtain ⟨c0, c1, c2, c3, c4, c5⟩ := hA.cells
  rcases four (okW b.view 1 1048576) (okW b.author 0 9) (okW b.height 0 3) (rightL b.txs) with a1 | ⟨a1, a2⟩ | ⟨a1, a2, a3⟩ | ⟨a1, a2, a3, a4⟩ | ⟨a1, a2, a3, a4⟩
  · have E : Hid (checkV b = 120) := Lib.hid (checkV_head (by rw [e, a1]; rfl))
    clear e HCR
    go_wp2_with (first
      | (go_at_call 127; refine (aview_is _ _ _ a1).mono ?_; rintro e w1 ⟨rfl, rfl⟩))
    go_ret
    exact ⟨by rw [E.out]; rfl, hA.bw⟩
  · have E : Hid (checkV b = 120) := Lib.hid (checkV_head (by rw [e, a1, a2]; rfl))
    clear e HCR
    go_wp2_with (first
      | (go_at_call 127; refine (aview_is _ _ _ a1).mono ?_; rintro e w1 ⟨rfl, rfl⟩)
      | (go_at_call 126; refine (arep_is _ _ _ a2).mono ?_; rintro e w1 ⟨rfl, rfl⟩))
    go_ret
    exact ⟨by rw [E.out]; rfl, hA.bw⟩
  · have E : Hid (checkV b = 120) := Lib.hid (checkV_head (by rw [e, a1, a2, a3]; rfl))
    clear e HCR
    go_wp2_with (first
      | (go_at_call 127; refine (aview_is _ _ _ a1).mono ?_; rintro e w1 ⟨rfl, rfl⟩)
      | (go_at_call 126; refine (arep_is _ _ _ a2).mono ?_; rintro e w1 ⟨rfl, rfl⟩)
      | (go_at_call 157; refine (within_is _ _ _ _ _ a3).mono ?_; rintro e w1 ⟨rfl, rfl⟩))
    go_ret
    exact ⟨by rw [E.out]; rfl, hA.bw⟩
  · have E : Hid (checkV b = 120) := Lib.hid (checkV_head (by rw [e, a1, a2, a3, a4]; rfl))
    have hR := HCR.out w0 _ hA.tb hA.rt a4
    clear e HCR
    go_wp2_with (first
      | (go_at_call 127; refine (aview_is _ _ _ a1).mono ?_; rintro e w1 ⟨rfl, rfl⟩)
      | (go_at_call 126; refine (arep_is _ _ _ a2).mono ?_; rintro e w1 ⟨rfl, rfl⟩)
      | (go_at_call 157; refine (within_is _ _ _ _ _ a3).mono ?_; rintro e w1 ⟨rfl, rfl⟩)
      | (go_at_call 170; refine hR.mono ?_; unfold gives; rintro e w1 ⟨rfl, hb1⟩))
    go_ret
    exact ⟨by rw [E.out]; rfl, nxt hA.bw hb1⟩
  have hR := HCR.out w0 _ hA.tb hA.rt a4
  have hd : Hid (headV b = true) := Lib.hid (by rw [e, a1, a2, a3, a4]; rfl)
  have hh := L11.okW_le a3
  clear e HCR
  go_upto_region 3 with (first
    | (go_at_call 127; refine (aview_is _ _ _ a1).mono ?_; rintro e w1 ⟨rfl, rfl⟩)
    | (go_at_call 126; refine (arep_is _ _ _ a2).mono ?_; rintro e w1 ⟨rfl, rfl⟩)
    | (go_at_call 157; refine (within_is _ _ _ _ _ a3).mono ?_; rintro e w1 ⟨rfl, rfl⟩)
    | (go_at_call 170; refine hR.mono ?_; unfold gives; rintro e w1 ⟨rfl, hb1⟩))
  have hB := hA.below hb1
  clear hA hR a1 a2 a3 a4 c0 c1 c2 c3 c4 c5 hb1
  have hfo := fun W r hr => follows_is b (.slice A b.proof.length c) (.slice B b.txs.length d) r W HW.out.par hh hr
  have HFO := Lib.hid hfo
  have ep : parentV b = (followsV b && decide (b.round = b.par.round + 1) && decide (b.round ≤ 1073741824)) := rfl
  clear hfo hh
  rcases (Bool.eq_false_or_eq_true (followsV b)).symm with g1 | g1
  · have E : Hid (checkV b = 122) := Lib.hid (checkV_par hd.out (by rw [ep, g1]; rfl))
    have hF := HFO.out w1 _ g1
    clear ep HFO g1
    go_wp2_with (first
      | (refine wpList_row_at rfl _ _ rfl w.heap.size rfl _ _ _ _ hB.bb Tryz.underlying57 rfl bloInfo ?_)
      | (go_at_call 171; refine hF.mono ?_; unfold gives; rintro e w2 ⟨rfl, hb2⟩))
    go_ret
    exact ⟨by rw [E.out]; rfl, nxt hB.bw hb2⟩
  have hF := HFO.out w1 _ g1
  have hpr := may_round (follows_may g1)
  have hw64 : wrap64 (b.par.round + 1) = b.par.round + 1 := by unfold wrap64; omega
  clear HFO hpr
  by_cases g2 : b.round = b.par.round + 1
  case neg =>
    have E : Hid (checkV b = 122) := Lib.hid (checkV_par hd.out (by rw [ep, g1, decide_eq_false g2]; rfl))
    have q2 : (b.round != b.par.round + 1) = true := by simpa using g2
    clear ep g1 g2
    go_wp2_with (first
      | (refine wpList_row_at rfl _ _ rfl w.heap.size rfl _ _ _ _ hB.bb Tryz.underlying57 rfl bloInfo ?_)
      | (go_at_call 171; refine hF.mono ?_; unfold gives; rintro e w2 ⟨rfl, hb2⟩; obtain ⟨d0, d1, d2, d3, d4, d5⟩ := (hB.below hb2).cells))
    go_ret
    exact ⟨by rw [E.out]; rfl, nxt hB.bw hb2⟩
  have q2 : (b.round != b.par.round + 1) = false := by simpa using g2
  by_cases g3 : b.round ≤ 1073741824
  case neg =>
    have E : Hid (checkV b = 122) := Lib.hid (checkV_par hd.out (by rw [ep, decide_eq_false g3]; simp))
    have q3 : 1073741824 < b.round := by omega
    clear ep g1 g2 g3
    go_wp2_with (first
      | (refine wpList_row_at rfl _ _ rfl w.heap.size rfl _ _ _ _ hB.bb Tryz.underlying57 rfl bloInfo ?_)
      | (go_at_call 171; refine hF.mono ?_; unfold gives; rintro e w2 ⟨rfl, hb2⟩; obtain ⟨d0, d1, d2, d3, d4, d5⟩ := (hB.below hb2).cells))
    go_ret
    exact ⟨by rw [E.out]; rfl, nxt hB.bw hb2⟩
  have q3 : ¬ 1073741824 < b.round := by omega
  have hpv : Hid (parentV b = true) := Lib.hid (by rw [ep, g1, decide_eq_true g2, decide_eq_true g3]; rfl)
  clear ep g1 g2 g3
  go_upto_region 5 with (first
    | (refine wpList_row_at rfl _ _ rfl w.heap.size rfl _ _ _ _ hB.bb Tryz.underlying57 rfl bloInfo ?_)
    | (go_at_call 171; refine hF.mono ?_; unfold gives; rintro e w2 ⟨rfl, hb2⟩; obtain ⟨d0, d1, d2, d3, d4, d5⟩ := (hB.below hb2).cells))
  have hD := hB.below hb2
  clear hB hF d0 d1 d2 d3 d4 d5 hb2 q2 q3 hw64
  rcases (Bool.eq_false_or_eq_true (provenV b)).symm with g1 | g1
  · have E : Hid (checkV b = 121) := Lib.hid (checkV_pro hd.out hpv.out g1)
    have hF := proven_is b A c (.slice B b.txs.length d) _ w2 HW.out hD.rp g1
    clear g1
    go_wp2_with (first
      | (refine wpList_row_at rfl _ _ rfl w.heap.size rfl _ _ _ _ hD.bb Tryz.underlying57 rfl bloInfo ?_)
      | (go_at_call 172; refine hF.mono ?_; unfold gives; rintro e w3 ⟨rfl, hb3⟩))
    go_ret
    exact ⟨by rw [E.out]; rfl, nxt hD.bw hb3⟩
  · have E : Hid (checkV b = 0) := Lib.hid (checkV_ok hd.out hpv.out g1)
    have hF := proven_is b A c (.slice B b.txs.length d) _ w2 HW.out hD.rp g1
    clear g1
    go_wp2_with (first
      | (refine wpList_row_at rfl _ _ rfl w.heap.size rfl _ _ _ _ hD.bb Tryz.underlying57 rfl bloInfo ?_)
      | (go_at_call 172; refine hF.mono ?_; unfold gives; rintro e w3 ⟨rfl, hb3⟩))
    go_ret
    exact ⟨by rw [E.out]; rfl, nxt hD.bw hb3⟩
/-- The block's error, whatever its lists' slices. -/
theorem checkB_any (b : Blo) (P T : Value) (w : World) (hw : b.wf) (hl : Lies w b P T) (hT : Tabs w) : Calls Tryz.prog 137 #[.agg (bloC b P T)] w (gives (.int .i64 (checkV b)) w) := by
  obtain ⟨A, c, B, d, rfl, rfl, hp, ht⟩ := hl
  exact chk_any b A c B d w hw hp ht hT
theorem checkB_is (b : Blo) (P T : Value) (r : Int) (w : World) (hw : b.wf) (hl : Lies w b P T) (hT : Tabs w) (hr : checkV b = r) : Calls Tryz.prog 137 #[.agg (bloC b P T)] w (gives (.int .i64 r) w) := by
  have := checkB_any b P T w hw hl hT; rw [hr] at this; exact this
end Go.Proofs.YtomaaidhmccngaaGreatDoor
