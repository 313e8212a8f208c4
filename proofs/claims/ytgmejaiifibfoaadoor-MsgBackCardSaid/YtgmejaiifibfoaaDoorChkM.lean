/-
  May it be a message: by the code.
-/
import Derived.Test.YtgmejaiifibfoaaDoorMadeA
import Derived.Test.YtgmejaiifibfoaaDoorMayE
import Derived.Test.YtgmejaiifibfoaaDoorSameM
set_option linter.unusedSimpArgs false
set_option linter.unusedVariables false
set_option maxRecDepth 10000
namespace Go.Proofs.YtgmejaiifibfoaaDoor
open Go.RowKit Go.Maps Go.Lib
open L3 (Blk Reads)
open L11 (Crt zeroC crtL crtC mayV okW crtInfo crtC_ones wpQuiet_fn)

/-- What is held while a message is looked at. -/
structure CmAt (w : World) (m : Mes) (P Q T : Value) (p : Pt) (v : Value) (m' : Mes) (P' Q' T' : Value) (W : World) : Prop where
  bb : Blk W w.heap.size 40 (mesC m P Q T)
  la : LiesM W m P Q T
  pt : PtIs W p v
  lb : LiesM W m' P' Q' T'
  tb : Tabs W
  bw : Below w.heap.size w W
theorem CmAt.below {w W W' : World} {m : Mes} {P Q T : Value} {p : Pt} {v : Value} {m' : Mes} {P' Q' T' : Value} (h : CmAt w m P Q T p v m' P' Q' T' W) (hb : Below W.heap.size W W') : CmAt w m P Q T p v m' P' Q' T' W' :=
  ⟨h.bb.below hb h.bb.lt, h.la.below hb, h.pt.below hb, h.lb.below hb, h.tb.kept hb, nxt h.bw hb⟩
set_option maxHeartbeats 4000000 in
set_option maxRecDepth 100000 in
theorem checkM_any (m : Mes) (P Q T : Value) (w : World) (hw : m.wf) (hl : LiesM w m P Q T) (hT : Tabs w) :
    Calls Tryd.prog 12 #[.agg (mesC m P Q T)] w (gives (.int .i64 (errI (mayM m) 140)) w) := by
  have F0 := Lib.hid (boxM_mk 40 hl)
  have hpw := part_wf hw
  have hpk := part_kind m
  have e : mayM m = (mayP m.kind (partM m) && sameMV m (madeM m.kind (partM m))) := by rw [may_made, sameMV_iff]
  have hmw := made_wf hw.kind hpw
  have HP := Lib.hid (fun W (h : LiesM W m P Q T) => part_any m P Q T W h)
  unfold parted at HP
  obtain ⟨p, hp⟩ : ∃ p, p = partM m := ⟨_, rfl⟩
  rw [← hp] at hpw hpk e hmw HP
  have HMAY := Lib.hid (fun v W (hv : PtIs W p v) (ht : Tabs W) => mayM_any m.kind p v W hpk hv hpw ht)
  have HMADE := Lib.hid (fun v W (hv : PtIs W p v) => made_is m.kind p v W hv)
  obtain ⟨m', hm'⟩ : ∃ m', m' = madeM m.kind p := ⟨_, rfl⟩
  rw [← hm'] at e hmw HMADE
  have HSAME := Lib.hid (fun P' Q' T' W (la : LiesM W m P Q T) (lb : LiesM W m' P' Q' T') => sameM_any m m' P Q T P' Q' T' W hw hmw la lb)
  obtain ⟨b0, hb0⟩ : ∃ b, b = mayP m.kind p := ⟨_, rfl⟩
  obtain ⟨b1, hb1⟩ : ∃ b, b = sameMV m m' := ⟨_, rfl⟩
  rw [← hb0, ← hb1] at e
  rw [← hb0] at HMAY
  rw [← hb1] at HSAME
  obtain ⟨k, hk⟩ : ∃ k, k = m.kind := ⟨_, rfl⟩
  rw [← hk] at HMAY HMADE
  rw [e]
  have HT := Lib.hid (fun W (hb : Below w.heap.size w W) => hT.kept hb)
  have HK := Lib.hid hk
  clear hpw hpk e hmw hp hm' hb0 hb1 hw hl hT hk
  go_enter Tryd.func12, Tryd.ntmps12
  go_upto_region 1 with fail
  refine name_world (fun w0 hw0 => ?_)
  have hA : BoxM w w.heap.size 40 m P Q T w0 := by rw [hw0]; exact F0.out
  clear hw0 F0
  have hP := HP.out w0 hA.ls
  go_upto_region 2 with (first
    | (refine wpList_row_at rfl _ _ rfl w.heap.size rfl _ _ _ _ hA.bb Tryd.underlying40 rfl mesInfo ?_)
    | (go_at_call 16; refine hP.mono ?_; rintro e w1 ⟨v, rfl, hv, hb1⟩))
  obtain ⟨P', Q', T', hMade, hLies⟩ := HMADE.out v w1 hv
  have hA1 := hA.below hb1
  have hC0 : CmAt w m P Q T p v m' P' Q' T' w1 := ⟨hA1.bb, hA1.ls, hv, hLies w1 (Below.refl _ _), HT.out _ hA1.bw, hA1.bw⟩
  have hC := hC0.below (Below.refl _ w1).drew
  have HMADE2 := Lib.hid hMade
  clear hP hv hb1 hA hA1 hMade hLies HP HMADE hC0
  have ne : Nonempty (WorldIn (CmAt w m P Q T p v m' P' Q' T')) := ⟨⟨_, hC⟩⟩
  have g0 : ∀ y : WorldIn (CmAt w m P Q T p v m' P' Q' T'), y.w.cell? ⟨w.heap.size, 0, none⟩ = some (.int .i64 k) := fun y => by rw [HK.out]; exact y.h.bb.cell 0
  cases b0
  · refine wp_region_S (CmAt w m P Q T p v m' P' Q' T') (by kernel_rfl) (by kernel_rfl) hC ?_
    clear hC
    iterate 14 (first
      | (refine wpQuiet_row rfl _ _ rfl w.heap.size rfl _ _ _ _ (fun y => y.h.bb) Tryd.underlying40 rfl mesInfo ?_
         conv => arg 6; simp only [Act.put, List.setIfInBounds_toArray, List.set_cons_zero, List.set_cons_succ])
      | (refine wpQuiet_fn rfl 25 _ _ rfl Tryd.call25 [.int .i64 k, v] rfl (v := .bool false) (fun x => (HMAY.out v x.w x.h.pt x.h.tb).mono fun e w' ⟨he, hb⟩ => ⟨he, x.h.below hb⟩) ?_
         conv => arg 6; simp only [Act.put, List.setIfInBounds_toArray, List.set_cons_zero, List.set_cons_succ])
      | go_big_quiet_step (fail))
    refine wpQuiet_nil ?_
    intro x
    obtain ⟨w7, hA7⟩ := x
    dsimp only
    clear ne g0
    go_wp2
    go_ret
    exact ⟨rfl, hA7.bw⟩
  · cases b1
    all_goals
      refine wp_region_S (CmAt w m P Q T p v m' P' Q' T') (by kernel_rfl) (by kernel_rfl) hC ?_
      clear hC
      iterate 14 (first
        | (refine wpQuiet_row rfl _ _ rfl w.heap.size rfl _ _ _ _ (fun y => y.h.bb) Tryd.underlying40 rfl mesInfo ?_
           conv => arg 6; simp only [Act.put, List.setIfInBounds_toArray, List.set_cons_zero, List.set_cons_succ])
        | (refine wpQuiet_fn rfl 25 _ _ rfl Tryd.call25 [.int .i64 k, v] rfl (v := .bool true) (fun x => (HMAY.out v x.w x.h.pt x.h.tb).mono fun e w' ⟨he, hb⟩ => ⟨he, x.h.below hb⟩) ?_
           conv => arg 6; simp only [Act.put, List.setIfInBounds_toArray, List.set_cons_zero, List.set_cons_succ])
        | (refine wpQuiet_fn rfl 20 _ _ rfl Tryd.call20 [.int .i64 k, v] rfl (v := .agg (mesC m' P' Q' T')) (fun x => (HMADE2.out x.w).mono fun e w' ⟨he, hb⟩ => ⟨he, x.h.below hb⟩) ?_
           conv => arg 6; simp only [Act.put, List.setIfInBounds_toArray, List.set_cons_zero, List.set_cons_succ])
        | (refine wpQuiet_fn rfl 9 _ _ rfl Tryd.call9 [.agg (mesC m P Q T), .agg (mesC m' P' Q' T')] rfl (v := .bool _) (fun x => (HSAME.out P' Q' T' x.w x.h.la x.h.lb).mono fun e w' ⟨he, hb⟩ => ⟨he, x.h.below hb⟩) ?_
           conv => arg 6; simp only [Act.put, List.setIfInBounds_toArray, List.set_cons_zero, List.set_cons_succ])
        | go_big_quiet_step (fail))
      refine wpQuiet_nil ?_
      intro x
      obtain ⟨w7, hA7⟩ := x
      dsimp only
      clear ne g0
      go_wp2
      go_ret
      exact ⟨rfl, hA7.bw⟩
theorem checkM_is (m : Mes) (P Q T : Value) (b : Bool) (w : World) (hw : m.wf) (hl : LiesM w m P Q T) (hT : Tabs w) (hb : mayM m = b) :
    Calls Tryd.prog 12 #[.agg (mesC m P Q T)] w (gives (.int .i64 (errI b 140)) w) := by
  have := checkM_any m P Q T w hw hl hT; rw [hb] at this; exact this
end Go.Proofs.YtgmejaiifibfoaaDoor
