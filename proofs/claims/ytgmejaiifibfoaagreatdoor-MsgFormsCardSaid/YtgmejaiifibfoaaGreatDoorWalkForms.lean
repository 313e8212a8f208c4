/-
  MsgForms, walked: which messages may be, and their bytes, by the code and by the document.
-/
import Derived.Test.YtgmejaiifibfoaaGreatDoorM9
import Derived.Test.YtgmejaiifibfoaaGreatDoorRchkM
import Derived.Test.YtgmejaiifibfoaaGreatDoorK4
set_option linter.unusedSimpArgs false
set_option linter.unusedVariables false
set_option maxRecDepth 10000
namespace Go.Proofs.YtgmejaiifibfoaaGreatDoor
open Go.RowKit Go.Maps Go.Lib
open L3 (Blk Reads)
open L11 (Crt zeroC mayV)

set_option maxHeartbeats 4000000 in
set_option maxRecDepth 100000 in
theorem forms_walk (m : Mes) (P Q T : Value) (w : World) (hraw : m.raw) (hl : LiesM w m P Q T) (hT : Tabs w) :
    Calls Tryz.prog 3 #[.agg (mesC m P Q T)] w (gives (.bool true) w) := by
  have F0 := Lib.hid (boxM_mk 34 hl)
  have HT := Lib.hid (fun w' (hb : Below w.heap.size w w') => hT.kept hb)
  have HG := Lib.hid (fun W (h : LiesM W m P Q T) => greatM_any m P Q T W hraw h)
  have HSM := Lib.hid (fun hg => greatM_small hraw hg)
  clear hl hT hraw
  go_enter Tryz.func3, Tryz.ntmps3
  go_upto_region 1 with fail
  refine name_world (fun w0 hw0 => ?_)
  have hA0 : BoxM w w.heap.size 34 m P Q T w0 := by rw [hw0]; exact F0.out
  clear hw0 F0
  have hal := aliveM_any w0 (HT.out _ hA0.bw)
  go_upto_region 3 with (first
    | (go_at_call 5; refine hal.mono ?_; unfold gives; rintro e w1 ⟨rfl, hb1⟩))
  have hA1 := hA0.below hb1
  clear hA0 hb1 hal
  have hgr := HG.out w1 hA1.ls
  rcases Bool.eq_false_or_eq_true (greatM m) with hg | hg
  · rw [hg] at hgr
    clear hg HSM HG
    go_wp2_with (first
      | (refine wpList_row_at rfl _ _ rfl w.heap.size rfl _ _ _ _ hA1.bb Tryz.underlying34 rfl mesInfoR ?_)
      | (go_at_call 6; refine hgr.mono ?_; unfold gives; rintro e w2 ⟨rfl, hb2⟩))
    go_ret
    exact ⟨rfl, nxt hA1.bw hb2⟩
  have hwf := HSM.out hg
  rw [hg] at hgr
  have HWF := Lib.hid hwf
  clear hg HSM HG hwf
  go_upto_region 5 with (first
    | (refine wpList_row_at rfl _ _ rfl w.heap.size rfl _ _ _ _ hA1.bb Tryz.underlying34 rfl mesInfoR ?_)
    | (go_at_call 6; refine hgr.mono ?_; unfold gives; rintro e w2 ⟨rfl, hb2⟩))
  have hA2 := hA1.below hb2
  clear hA1 hb2 hgr
  rcases (Bool.eq_false_or_eq_true (mayM m)).symm with h0 | h0
  · have hck := checkM_is m P Q T false w2 HWF.out hA2.ls (HT.out _ hA2.bw) h0
    have HBY := Lib.hid (fun W (h : LiesM W m P Q T) (ht : Tabs W) => bytesM_no m P Q T W HWF.out h ht h0)
    have HRC : Hid (∀ W, LiesM W m P Q T → Calls Tryz.prog 9 #[.agg (mesC m P Q T)] W (gives (.bool false) W)) := Lib.hid (fun W h => by rw [← h0]; exact refchkM_any m P Q T W HWF.out h)
    clear h0
    go_wp2_with (first
      | (refine wpList_row_at rfl _ _ rfl w.heap.size rfl _ _ _ _ hA2.bb Tryz.underlying34 rfl mesInfoR ?_)
      | (go_at_call 7; refine hck.mono ?_; unfold gives errI; rintro e w3 ⟨rfl, hb3⟩; have hA3 := hA2.below hb3)
      | (refine wpList_row_at rfl _ _ rfl w.heap.size rfl _ _ _ _ hA3.bb Tryz.underlying34 rfl mesInfoR ?_)
      | (go_at_call 8; refine (HBY.out _ hA3.ls (HT.out _ hA3.bw)).mono ?_; unfold gives; rintro e w4 ⟨rfl, hb4⟩; have hA4 := hA3.below hb4)
      | (refine wpList_row_at rfl _ _ rfl w.heap.size rfl _ _ _ _ hA4.bb Tryz.underlying34 rfl mesInfoR ?_)
      | (go_at_call 9; refine (HRC.out _ hA4.ls).mono ?_; unfold gives; rintro e w5 ⟨rfl, hb5⟩))
    go_ret
    exact ⟨rfl, nxt hA4.bw hb5⟩
  have hck := checkM_is m P Q T true w2 HWF.out hA2.ls (HT.out _ hA2.bw) h0
  have hby := fun W (h : LiesM W m P Q T) (ht : Tabs W) => bytesM_ok m P Q T W HWF.out h ht h0
  have hrb := fun W (h : LiesM W m P Q T) => refbytM_any m P Q T W HWF.out h h0
  have HRC : Hid (∀ W, LiesM W m P Q T → Calls Tryz.prog 9 #[.agg (mesC m P Q T)] W (gives (.bool true) W)) := Lib.hid (fun W h => by rw [← h0]; exact refchkM_any m P Q T W HWF.out h)
  obtain ⟨y, hy⟩ : ∃ y, y = bytesM m := ⟨_, rfl⟩
  simp only [← hy] at hby hrb
  have HBY := Lib.hid hby
  have HRB := Lib.hid hrb
  have q1 := same_selfM y
  clear h0 hy hby hrb
  go_wp2_with (first
    | (refine wpList_row_at rfl _ _ rfl w.heap.size rfl _ _ _ _ hA2.bb Tryz.underlying34 rfl mesInfoR ?_)
    | (go_at_call 7; refine hck.mono ?_; unfold gives errI; rintro e w3 ⟨rfl, hb3⟩; have hA3 := hA2.below hb3)
    | (refine wpList_row_at rfl _ _ rfl w.heap.size rfl _ _ _ _ hA3.bb Tryz.underlying34 rfl mesInfoR ?_)
    | (go_at_call 8; refine (HBY.out _ hA3.ls (HT.out _ hA3.bw)).mono ?_; unfold tells; rintro e w4 ⟨rfl, hb4⟩; have hA4 := hA3.below hb4)
    | (refine wpList_row_at rfl _ _ rfl w.heap.size rfl _ _ _ _ hA4.bb Tryz.underlying34 rfl mesInfoR ?_)
    | (go_at_call 9; refine (HRC.out _ hA4.ls).mono ?_; unfold gives; rintro e w5 ⟨rfl, hb5⟩; have hA5 := hA4.below hb5)
    | (refine wpList_row_at rfl _ _ rfl w.heap.size rfl _ _ _ _ hA5.bb Tryz.underlying34 rfl mesInfoR ?_)
    | (go_at_call 10; refine (HRB.out _ hA5.ls).mono ?_; unfold gives; rintro e w6 ⟨rfl, hb6⟩))
  go_ret
  exact ⟨rfl, nxt hA5.bw hb6⟩
end Go.Proofs.YtgmejaiifibfoaaGreatDoor
