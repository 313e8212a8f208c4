/-
  May it be a message, by the document: by its kind.
-/
import Derived.Test.YtgmejaiifibfoaaGreatDoorRcM
import Derived.Test.YtgmejaiifibfoaaGreatDoorM5
import Derived.Test.YtgmejaiifibfoaaGreatDoorM3
set_option linter.unusedSimpArgs false
set_option linter.unusedVariables false
set_option maxRecDepth 10000
namespace Go.Proofs.YtgmejaiifibfoaaGreatDoor
open Go.RowKit Go.Maps Go.Lib
open L3 (Blk Reads)
open L6 (Turn)
open L11 (Crt zeroC crtL crtC mayV okW okW_mk okW_not crtInfo crtC_ones wpQuiet_fn)

set_option maxHeartbeats 4000000 in
set_option maxRecDepth 100000 in
theorem rchk_6 (m : Mes) (P Q T : Value) (w : World) (hw : m.wf) (hl : LiesM w m P Q T) (hk : m.kind = 6) : Calls Tryz.prog 9 #[.agg (mesC m P Q T)] w (gives (.bool (mayM m)) w) := by
  have hp : partM m = .inv m.signer m.view := by unfold partM; rw [if_neg (by unfold hasB; omega), if_neg (by unfold hasC; omega), if_neg (by omega), if_neg (by omega), if_pos (.inl hk)]
  have hok : okM m = (okW m.signer 0 9 && okW m.view 1 1048576) := by rw [ok_mayP, hp, hk]; rfl
  have hmay : mayM m = (okM m && sameMV m (madeM 6 (partM m))) := by unfold mayM; rw [sameMV_iff, only_made, hk]
  have how : (madeM 6 (partM m)).wf := made_wf (by unfold inI; omega) (part_wf hw)
  rw [hp] at hmay how
  rw [hok] at hmay
  have F0 := Lib.hid (boxM_mk 34 hl)
  have hlo : ∀ W, Below w.heap.size w W → LiesM W (madeM 6 (.inv m.signer m.view)) nS0 nS0 nS0 := fun W hb => liesM_zero W _ rfl rfl
  have hlm : ∀ W, Below w.heap.size w W → LiesM W m P Q T := fun W hb => hl.below hb
  have HS := Lib.hid (fun W (hb : Below w.heap.size w W) => refSm_any m _ _ _ _ _ _ _ W hw how (hlm W hb) (hlo W hb))
  obtain ⟨b1, hb1⟩ : ∃ b, b = sameMV m (madeM 6 (.inv m.signer m.view)) := ⟨_, rfl⟩
  rw [← hb1] at hmay HS
  rw [hmay]
  obtain ⟨a0, h0⟩ : ∃ b, okW m.signer 0 9 = b := ⟨_, rfl⟩
  obtain ⟨a1, h1⟩ : ∃ b, okW m.view 1 1048576 = b := ⟨_, rfl⟩
  rw [h0, h1]
  have H0 := Lib.hid h0
  have H1 := Lib.hid h1
  clear h0 h1 hw hl
  clear hmay hok hp how hlo hlm hb1
  go_enter Tryz.func9, Tryz.ntmps9
  go_upto_region 1 with fail
  refine name_world (fun w0 hw0 => ?_)
  have hA0 : BoxM w w.heap.size 34 m (P) (Q) (T) w0 := by rw [hw0]; exact F0.out
  clear hw0 F0
  have c0 : w0.cell? ⟨w.heap.size, 0, none⟩ = some (.int .i64 6) := by rw [← hk]; exact hA0.bb.cell 0
  go_upto_region 3 with (first
    | (refine wpList_build rfl _ _ rfl #[(0, .int .i64 6)] rfl (build_mkR 6 _) ?_)
    | (refine wpList_store_new rfl _ _ _ rfl _ (mesC { zeroM with kind := 6 } nS0 nS0 nS0) rfl rfl _ _ mesInfoR rfl (mesC_onesZ _) ?_))
  have hA1 := hA0.below (below_new w0 (.cells (mesC { zeroM with kind := 6 } nS0 nS0 nS0) 34))
  have k3 := mes_new w0 34 { zeroM with kind := 6 } nS0 nS0 nS0
  have hM := hA0.bb.lt
  obtain ⟨M, hMe⟩ : ∃ M, M = w0.heap.size := ⟨_, rfl⟩
  rw [← hMe] at k3 hM
  rw [← hMe]
  refine name_world (fun w1 hw1 => ?_)
  rw [← hw1] at hA1 k3
  clear hw1 hMe hA0 c0
  have pc := mes_crt hA1.bb
  go_upto_region 4 with (first
    | (refine wpList_cells_at rfl _ _ rfl ⟨w.heap.size, 5, none⟩ rfl (crtL m.cert) _ pc Tryz.underlying24 rfl crtInfo ?_)
    | (refine wpList_store_new rfl _ _ _ rfl _ (crtC m.cert) rfl rfl _ _ crtInfo rfl (crtC_ones _) ?_))
  have hb5 := below_new w1 (.cells (crtC m.cert) 24)
  have hA2 := hA1.below hb5
  have k4 := k3.below hb5 k3.lt
  have k5 := L11.box_new w1 24 m.cert
  have hC := k3.lt
  obtain ⟨C, hCe⟩ : ∃ C, C = w1.heap.size := ⟨_, rfl⟩
  rw [← hCe] at k5 hC
  rw [← hCe]
  refine name_world (fun w2 hw2 => ?_)
  rw [← hw2] at hA2 k4 k5
  have hR : RcM w M C m (P) (Q) (T) { zeroM with kind := 6 } nS0 nS0 nS0 w2 := ⟨hA2.bb, k4, k5, hA2.bw, hM, hC⟩
  have c0 : w2.cell? ⟨w.heap.size, 0, none⟩ = some (.int .i64 6) := by rw [← hk]; exact hR.b1.cell 0
  clear hw2 hCe hA1 hA2 k3 k4 k5 hb5 pc hM hC hk
  have e0 : w2.cell? ⟨w.heap.size, 1, none⟩ = some (.int .i64 m.signer) := hR.b1.cell 1
  have o0 : w2.cell? ⟨M, 1, none⟩ = some (.int .i64 0) := hR.b3.cell 1
  have f0 := hR.b3.frozen 1
  have hR3 : RcM w M C m P Q T { zeroM with kind := 6, signer := m.signer } nS0 nS0 nS0 (w2.setCell ⟨M, 1, none⟩ (.int .i64 m.signer)) := hR.cell 1 _ (by kernel_rfl)
  clear hR
  go_upto_region 28 with fail
  refine name_world (fun w3 hw3 => ?_)
  rw [← hw3] at hR3
  clear hw3 e0 o0 f0 c0
  have e1 : w3.cell? ⟨w.heap.size, 2, none⟩ = some (.int .i64 m.view) := hR3.b1.cell 2
  have o1 : w3.cell? ⟨M, 2, none⟩ = some (.int .i64 0) := hR3.b3.cell 2
  have f1 := hR3.b3.frozen 2
  have hR4 : RcM w M C m P Q T (madeM 6 (.inv m.signer m.view)) nS0 nS0 nS0 (w3.setCell ⟨M, 2, none⟩ (.int .i64 m.view)) := hR3.cell 2 _ (by kernel_rfl)
  clear hR3
  go_upto_region 29 with fail
  refine name_world (fun w4 hw4 => ?_)
  rw [← hw4] at hR4
  clear hw4 e1 o1 f1
  have g0 : w4.cell? ⟨w.heap.size, 1, none⟩ = some (.int .i64 m.signer) := hR4.b1.cell 1
  have g1 : w4.cell? ⟨w.heap.size, 2, none⟩ = some (.int .i64 m.view) := hR4.b1.cell 2
  have hS := HS.out w4 hR4.bw
  cases a0
  · go_wp2_with (first
      | (go_at_call 26; refine (signR_is _ _ _ H0.out).mono ?_; rintro e w5 ⟨rfl, rfl⟩)
      | (go_at_call 27; refine (viewR_is _ _ _ H1.out).mono ?_; rintro e w5 ⟨rfl, rfl⟩))
    go_ret
    exact ⟨rfl, hR4.bw⟩
  cases a1
  · go_wp2_with (first
      | (go_at_call 26; refine (signR_is _ _ _ H0.out).mono ?_; rintro e w5 ⟨rfl, rfl⟩)
      | (go_at_call 27; refine (viewR_is _ _ _ H1.out).mono ?_; rintro e w5 ⟨rfl, rfl⟩))
    go_ret
    exact ⟨rfl, hR4.bw⟩
  · go_wp2_with (first
      | (go_at_call 26; refine (signR_is _ _ _ H0.out).mono ?_; rintro e w5 ⟨rfl, rfl⟩)
      | (go_at_call 27; refine (viewR_is _ _ _ H1.out).mono ?_; rintro e w5 ⟨rfl, rfl⟩)
      | (refine wpList_row_at rfl _ _ rfl w.heap.size rfl _ _ _ _ hR4.b1 Tryz.underlying34 rfl mesInfoR ?_)
      | (refine wpList_row_at rfl _ _ rfl M rfl _ _ _ _ hR4.b3 Tryz.underlying34 rfl mesInfoR ?_)
      | (go_at_call 12; refine hS.mono ?_; unfold gives; rintro e w9 ⟨rfl, hb9⟩))
    go_ret
    exact ⟨rfl, nxt hR4.bw hb9⟩
set_option maxHeartbeats 4000000 in
set_option maxRecDepth 100000 in
theorem rchk_12 (m : Mes) (P Q T : Value) (w : World) (hw : m.wf) (hl : LiesM w m P Q T) (hk : m.kind = 12) : Calls Tryz.prog 9 #[.agg (mesC m P Q T)] w (gives (.bool (mayM m)) w) := by
  have hp : partM m = .inv m.signer m.view := by unfold partM; rw [if_neg (by unfold hasB; omega), if_neg (by unfold hasC; omega), if_neg (by omega), if_neg (by omega), if_pos (.inr hk)]
  have hok : okM m = (okW m.signer 0 9 && okW m.view 1 1048576) := by rw [ok_mayP, hp, hk]; rfl
  have hmay : mayM m = (okM m && sameMV m (madeM 12 (partM m))) := by unfold mayM; rw [sameMV_iff, only_made, hk]
  have how : (madeM 12 (partM m)).wf := made_wf (by unfold inI; omega) (part_wf hw)
  rw [hp] at hmay how
  rw [hok] at hmay
  have F0 := Lib.hid (boxM_mk 34 hl)
  have hlo : ∀ W, Below w.heap.size w W → LiesM W (madeM 12 (.inv m.signer m.view)) nS0 nS0 nS0 := fun W hb => liesM_zero W _ rfl rfl
  have hlm : ∀ W, Below w.heap.size w W → LiesM W m P Q T := fun W hb => hl.below hb
  have HS := Lib.hid (fun W (hb : Below w.heap.size w W) => refSm_any m _ _ _ _ _ _ _ W hw how (hlm W hb) (hlo W hb))
  obtain ⟨b1, hb1⟩ : ∃ b, b = sameMV m (madeM 12 (.inv m.signer m.view)) := ⟨_, rfl⟩
  rw [← hb1] at hmay HS
  rw [hmay]
  obtain ⟨a0, h0⟩ : ∃ b, okW m.signer 0 9 = b := ⟨_, rfl⟩
  obtain ⟨a1, h1⟩ : ∃ b, okW m.view 1 1048576 = b := ⟨_, rfl⟩
  rw [h0, h1]
  have H0 := Lib.hid h0
  have H1 := Lib.hid h1
  clear h0 h1 hw hl
  clear hmay hok hp how hlo hlm hb1
  go_enter Tryz.func9, Tryz.ntmps9
  go_upto_region 1 with fail
  refine name_world (fun w0 hw0 => ?_)
  have hA0 : BoxM w w.heap.size 34 m (P) (Q) (T) w0 := by rw [hw0]; exact F0.out
  clear hw0 F0
  have c0 : w0.cell? ⟨w.heap.size, 0, none⟩ = some (.int .i64 12) := by rw [← hk]; exact hA0.bb.cell 0
  go_upto_region 3 with (first
    | (refine wpList_build rfl _ _ rfl #[(0, .int .i64 12)] rfl (build_mkR 12 _) ?_)
    | (refine wpList_store_new rfl _ _ _ rfl _ (mesC { zeroM with kind := 12 } nS0 nS0 nS0) rfl rfl _ _ mesInfoR rfl (mesC_onesZ _) ?_))
  have hA1 := hA0.below (below_new w0 (.cells (mesC { zeroM with kind := 12 } nS0 nS0 nS0) 34))
  have k3 := mes_new w0 34 { zeroM with kind := 12 } nS0 nS0 nS0
  have hM := hA0.bb.lt
  obtain ⟨M, hMe⟩ : ∃ M, M = w0.heap.size := ⟨_, rfl⟩
  rw [← hMe] at k3 hM
  rw [← hMe]
  refine name_world (fun w1 hw1 => ?_)
  rw [← hw1] at hA1 k3
  clear hw1 hMe hA0 c0
  have pc := mes_crt hA1.bb
  go_upto_region 4 with (first
    | (refine wpList_cells_at rfl _ _ rfl ⟨w.heap.size, 5, none⟩ rfl (crtL m.cert) _ pc Tryz.underlying24 rfl crtInfo ?_)
    | (refine wpList_store_new rfl _ _ _ rfl _ (crtC m.cert) rfl rfl _ _ crtInfo rfl (crtC_ones _) ?_))
  have hb5 := below_new w1 (.cells (crtC m.cert) 24)
  have hA2 := hA1.below hb5
  have k4 := k3.below hb5 k3.lt
  have k5 := L11.box_new w1 24 m.cert
  have hC := k3.lt
  obtain ⟨C, hCe⟩ : ∃ C, C = w1.heap.size := ⟨_, rfl⟩
  rw [← hCe] at k5 hC
  rw [← hCe]
  refine name_world (fun w2 hw2 => ?_)
  rw [← hw2] at hA2 k4 k5
  have hR : RcM w M C m (P) (Q) (T) { zeroM with kind := 12 } nS0 nS0 nS0 w2 := ⟨hA2.bb, k4, k5, hA2.bw, hM, hC⟩
  have c0 : w2.cell? ⟨w.heap.size, 0, none⟩ = some (.int .i64 12) := by rw [← hk]; exact hR.b1.cell 0
  clear hw2 hCe hA1 hA2 k3 k4 k5 hb5 pc hM hC hk
  have e0 : w2.cell? ⟨w.heap.size, 1, none⟩ = some (.int .i64 m.signer) := hR.b1.cell 1
  have o0 : w2.cell? ⟨M, 1, none⟩ = some (.int .i64 0) := hR.b3.cell 1
  have f0 := hR.b3.frozen 1
  have hR3 : RcM w M C m P Q T { zeroM with kind := 12, signer := m.signer } nS0 nS0 nS0 (w2.setCell ⟨M, 1, none⟩ (.int .i64 m.signer)) := hR.cell 1 _ (by kernel_rfl)
  clear hR
  go_upto_region 28 with fail
  refine name_world (fun w3 hw3 => ?_)
  rw [← hw3] at hR3
  clear hw3 e0 o0 f0 c0
  have e1 : w3.cell? ⟨w.heap.size, 2, none⟩ = some (.int .i64 m.view) := hR3.b1.cell 2
  have o1 : w3.cell? ⟨M, 2, none⟩ = some (.int .i64 0) := hR3.b3.cell 2
  have f1 := hR3.b3.frozen 2
  have hR4 : RcM w M C m P Q T (madeM 12 (.inv m.signer m.view)) nS0 nS0 nS0 (w3.setCell ⟨M, 2, none⟩ (.int .i64 m.view)) := hR3.cell 2 _ (by kernel_rfl)
  clear hR3
  go_upto_region 29 with fail
  refine name_world (fun w4 hw4 => ?_)
  rw [← hw4] at hR4
  clear hw4 e1 o1 f1
  have g0 : w4.cell? ⟨w.heap.size, 1, none⟩ = some (.int .i64 m.signer) := hR4.b1.cell 1
  have g1 : w4.cell? ⟨w.heap.size, 2, none⟩ = some (.int .i64 m.view) := hR4.b1.cell 2
  have hS := HS.out w4 hR4.bw
  cases a0
  · go_wp2_with (first
      | (go_at_call 26; refine (signR_is _ _ _ H0.out).mono ?_; rintro e w5 ⟨rfl, rfl⟩)
      | (go_at_call 27; refine (viewR_is _ _ _ H1.out).mono ?_; rintro e w5 ⟨rfl, rfl⟩))
    go_ret
    exact ⟨rfl, hR4.bw⟩
  cases a1
  · go_wp2_with (first
      | (go_at_call 26; refine (signR_is _ _ _ H0.out).mono ?_; rintro e w5 ⟨rfl, rfl⟩)
      | (go_at_call 27; refine (viewR_is _ _ _ H1.out).mono ?_; rintro e w5 ⟨rfl, rfl⟩))
    go_ret
    exact ⟨rfl, hR4.bw⟩
  · go_wp2_with (first
      | (go_at_call 26; refine (signR_is _ _ _ H0.out).mono ?_; rintro e w5 ⟨rfl, rfl⟩)
      | (go_at_call 27; refine (viewR_is _ _ _ H1.out).mono ?_; rintro e w5 ⟨rfl, rfl⟩)
      | (refine wpList_row_at rfl _ _ rfl w.heap.size rfl _ _ _ _ hR4.b1 Tryz.underlying34 rfl mesInfoR ?_)
      | (refine wpList_row_at rfl _ _ rfl M rfl _ _ _ _ hR4.b3 Tryz.underlying34 rfl mesInfoR ?_)
      | (go_at_call 12; refine hS.mono ?_; unfold gives; rintro e w9 ⟨rfl, hb9⟩))
    go_ret
    exact ⟨rfl, nxt hR4.bw hb9⟩
set_option maxHeartbeats 4000000 in
set_option maxRecDepth 100000 in
theorem rchk_7 (m : Mes) (P Q T : Value) (w : World) (hw : m.wf) (hl : LiesM w m P Q T) (hk : m.kind = 7) : Calls Tryz.prog 9 #[.agg (mesC m P Q T)] w (gives (.bool (mayM m)) w) := by
  have hp : partM m = .ele m.view m.set := by unfold partM; rw [if_neg (by unfold hasB; omega), if_neg (by unfold hasC; omega), if_neg (by omega), if_neg (by omega), if_neg (by unfold hasV; omega), if_pos hk]
  have hok : okM m = (okW m.view 1 1048576 && decide (1 ≤ m.set ∧ m.set ≤ 1023)) := by rw [ok_mayP, hp, hk]; rfl
  have hmay : mayM m = (okM m && sameMV m (madeM 7 (partM m))) := by unfold mayM; rw [sameMV_iff, only_made, hk]
  have how : (madeM 7 (partM m)).wf := made_wf (by unfold inI; omega) (part_wf hw)
  rw [hp] at hmay how
  rw [hok] at hmay
  have F0 := Lib.hid (boxM_mk 34 hl)
  have hlo : ∀ W, Below w.heap.size w W → LiesM W (madeM 7 (.ele m.view m.set)) nS0 nS0 nS0 := fun W hb => liesM_zero W _ rfl rfl
  have hlm : ∀ W, Below w.heap.size w W → LiesM W m P Q T := fun W hb => hl.below hb
  have HS := Lib.hid (fun W (hb : Below w.heap.size w W) => refSm_any m _ _ _ _ _ _ _ W hw how (hlm W hb) (hlo W hb))
  obtain ⟨b1, hb1⟩ : ∃ b, b = sameMV m (madeM 7 (.ele m.view m.set)) := ⟨_, rfl⟩
  rw [← hb1] at hmay HS
  rw [hmay]
  obtain ⟨a0, h0⟩ : ∃ b, okW m.view 1 1048576 = b := ⟨_, rfl⟩
  obtain ⟨a1, h1⟩ : ∃ b, decide (1 ≤ m.set ∧ m.set ≤ 1023) = b := ⟨_, rfl⟩
  rw [h0, h1]
  have H0 := Lib.hid h0
  have H1 := Lib.hid h1
  clear h0 h1 hw hl
  clear hmay hok hp how hlo hlm hb1
  go_enter Tryz.func9, Tryz.ntmps9
  go_upto_region 1 with fail
  refine name_world (fun w0 hw0 => ?_)
  have hA0 : BoxM w w.heap.size 34 m (P) (Q) (T) w0 := by rw [hw0]; exact F0.out
  clear hw0 F0
  have c0 : w0.cell? ⟨w.heap.size, 0, none⟩ = some (.int .i64 7) := by rw [← hk]; exact hA0.bb.cell 0
  go_upto_region 3 with (first
    | (refine wpList_build rfl _ _ rfl #[(0, .int .i64 7)] rfl (build_mkR 7 _) ?_)
    | (refine wpList_store_new rfl _ _ _ rfl _ (mesC { zeroM with kind := 7 } nS0 nS0 nS0) rfl rfl _ _ mesInfoR rfl (mesC_onesZ _) ?_))
  have hA1 := hA0.below (below_new w0 (.cells (mesC { zeroM with kind := 7 } nS0 nS0 nS0) 34))
  have k3 := mes_new w0 34 { zeroM with kind := 7 } nS0 nS0 nS0
  have hM := hA0.bb.lt
  obtain ⟨M, hMe⟩ : ∃ M, M = w0.heap.size := ⟨_, rfl⟩
  rw [← hMe] at k3 hM
  rw [← hMe]
  refine name_world (fun w1 hw1 => ?_)
  rw [← hw1] at hA1 k3
  clear hw1 hMe hA0 c0
  have pc := mes_crt hA1.bb
  go_upto_region 4 with (first
    | (refine wpList_cells_at rfl _ _ rfl ⟨w.heap.size, 5, none⟩ rfl (crtL m.cert) _ pc Tryz.underlying24 rfl crtInfo ?_)
    | (refine wpList_store_new rfl _ _ _ rfl _ (crtC m.cert) rfl rfl _ _ crtInfo rfl (crtC_ones _) ?_))
  have hb5 := below_new w1 (.cells (crtC m.cert) 24)
  have hA2 := hA1.below hb5
  have k4 := k3.below hb5 k3.lt
  have k5 := L11.box_new w1 24 m.cert
  have hC := k3.lt
  obtain ⟨C, hCe⟩ : ∃ C, C = w1.heap.size := ⟨_, rfl⟩
  rw [← hCe] at k5 hC
  rw [← hCe]
  refine name_world (fun w2 hw2 => ?_)
  rw [← hw2] at hA2 k4 k5
  have hR : RcM w M C m (P) (Q) (T) { zeroM with kind := 7 } nS0 nS0 nS0 w2 := ⟨hA2.bb, k4, k5, hA2.bw, hM, hC⟩
  have c0 : w2.cell? ⟨w.heap.size, 0, none⟩ = some (.int .i64 7) := by rw [← hk]; exact hR.b1.cell 0
  clear hw2 hCe hA1 hA2 k3 k4 k5 hb5 pc hM hC hk
  have e0 : w2.cell? ⟨w.heap.size, 2, none⟩ = some (.int .i64 m.view) := hR.b1.cell 2
  have o0 : w2.cell? ⟨M, 2, none⟩ = some (.int .i64 0) := hR.b3.cell 2
  have f0 := hR.b3.frozen 2
  have hR3 : RcM w M C m P Q T { zeroM with kind := 7, view := m.view } nS0 nS0 nS0 (w2.setCell ⟨M, 2, none⟩ (.int .i64 m.view)) := hR.cell 2 _ (by kernel_rfl)
  clear hR
  go_upto_region 32 with fail
  refine name_world (fun w3 hw3 => ?_)
  rw [← hw3] at hR3
  clear hw3 e0 o0 f0 c0
  have e1 : w3.cell? ⟨w.heap.size, 4, none⟩ = some (.int .u32 m.set) := hR3.b1.cell 4
  have o1 : w3.cell? ⟨M, 4, none⟩ = some (.int .u32 0) := hR3.b3.cell 4
  have f1 := hR3.b3.frozen 4
  have hR4 : RcM w M C m P Q T (madeM 7 (.ele m.view m.set)) nS0 nS0 nS0 (w3.setCell ⟨M, 4, none⟩ (.int .u32 m.set)) := hR3.cell 4 _ (by kernel_rfl)
  clear hR3
  go_upto_region 33 with fail
  refine name_world (fun w4 hw4 => ?_)
  rw [← hw4] at hR4
  clear hw4 e1 o1 f1
  have g0 : w4.cell? ⟨w.heap.size, 2, none⟩ = some (.int .i64 m.view) := hR4.b1.cell 2
  have g1 : w4.cell? ⟨w.heap.size, 4, none⟩ = some (.int .u32 m.set) := hR4.b1.cell 4
  have hS := HS.out w4 hR4.bw
  cases a0
  · go_wp2_with (first
      | (go_at_call 27; refine (viewR_is _ _ _ H0.out).mono ?_; rintro e w5 ⟨rfl, rfl⟩))
    go_ret
    exact ⟨rfl, hR4.bw⟩
  by_cases z0 : 1 ≤ m.set
  · by_cases z1 : m.set ≤ 1023
    · obtain rfl : a1 = true := by rw [← H1.out]; exact decide_eq_true ⟨z0, z1⟩
      have y0 : (1 : Int) ≤ (m.set : Int) := by omega
      have y1 : (m.set : Int) ≤ 1023 := by omega
      go_wp2_with (first
        | (go_at_call 27; refine (viewR_is _ _ _ H0.out).mono ?_; rintro e w5 ⟨rfl, rfl⟩)
        | (refine wpList_row_at rfl _ _ rfl w.heap.size rfl _ _ _ _ hR4.b1 Tryz.underlying34 rfl mesInfoR ?_)
        | (refine wpList_row_at rfl _ _ rfl M rfl _ _ _ _ hR4.b3 Tryz.underlying34 rfl mesInfoR ?_)
        | (go_at_call 12; refine hS.mono ?_; unfold gives; rintro e w9 ⟨rfl, hb9⟩))
      go_ret
      exact ⟨rfl, nxt hR4.bw hb9⟩
    · obtain rfl : a1 = false := by rw [← H1.out]; exact decide_eq_false (by omega)
      have y0 : (1 : Int) ≤ (m.set : Int) := by omega
      have y1 : ¬ (m.set : Int) ≤ 1023 := by omega
      go_wp2_with (first
        | (go_at_call 27; refine (viewR_is _ _ _ H0.out).mono ?_; rintro e w5 ⟨rfl, rfl⟩))
      go_ret
      exact ⟨rfl, hR4.bw⟩
  · obtain rfl : a1 = false := by rw [← H1.out]; exact decide_eq_false (by omega)
    have y0 : ¬ (1 : Int) ≤ (m.set : Int) := by omega
    go_wp2_with (first
      | (go_at_call 27; refine (viewR_is _ _ _ H0.out).mono ?_; rintro e w5 ⟨rfl, rfl⟩))
    go_ret
    exact ⟨rfl, hR4.bw⟩
set_option maxHeartbeats 4000000 in
set_option maxRecDepth 100000 in
theorem rchk_8 (m : Mes) (P Q T : Value) (w : World) (hw : m.wf) (hl : LiesM w m P Q T) (hk : m.kind = 8) : Calls Tryz.prog 9 #[.agg (mesC m P Q T)] w (gives (.bool (mayM m)) w) := by
  have hp : partM m = .wan m.signer m.n := by unfold partM; rw [if_neg (by unfold hasB; omega), if_neg (by unfold hasC; omega), if_neg (by omega), if_neg (by omega), if_neg (by unfold hasV; omega), if_neg (by omega), if_pos hk]
  have hok : okM m = (okW m.signer 0 9 && okW m.n 1 2147483647) := by rw [ok_mayP, hp, hk]; rfl
  have hmay : mayM m = (okM m && sameMV m (madeM 8 (partM m))) := by unfold mayM; rw [sameMV_iff, only_made, hk]
  have how : (madeM 8 (partM m)).wf := made_wf (by unfold inI; omega) (part_wf hw)
  rw [hp] at hmay how
  rw [hok] at hmay
  have F0 := Lib.hid (boxM_mk 34 hl)
  have hlo : ∀ W, Below w.heap.size w W → LiesM W (madeM 8 (.wan m.signer m.n)) nS0 nS0 nS0 := fun W hb => liesM_zero W _ rfl rfl
  have hlm : ∀ W, Below w.heap.size w W → LiesM W m P Q T := fun W hb => hl.below hb
  have HS := Lib.hid (fun W (hb : Below w.heap.size w W) => refSm_any m _ _ _ _ _ _ _ W hw how (hlm W hb) (hlo W hb))
  obtain ⟨b1, hb1⟩ : ∃ b, b = sameMV m (madeM 8 (.wan m.signer m.n)) := ⟨_, rfl⟩
  rw [← hb1] at hmay HS
  rw [hmay]
  obtain ⟨a0, h0⟩ : ∃ b, okW m.signer 0 9 = b := ⟨_, rfl⟩
  obtain ⟨a1, h1⟩ : ∃ b, okW m.n 1 2147483647 = b := ⟨_, rfl⟩
  rw [h0, h1]
  have H0 := Lib.hid h0
  have H1 := Lib.hid h1
  clear h0 h1 hw hl
  clear hmay hok hp how hlo hlm hb1
  go_enter Tryz.func9, Tryz.ntmps9
  go_upto_region 1 with fail
  refine name_world (fun w0 hw0 => ?_)
  have hA0 : BoxM w w.heap.size 34 m (P) (Q) (T) w0 := by rw [hw0]; exact F0.out
  clear hw0 F0
  have c0 : w0.cell? ⟨w.heap.size, 0, none⟩ = some (.int .i64 8) := by rw [← hk]; exact hA0.bb.cell 0
  go_upto_region 3 with (first
    | (refine wpList_build rfl _ _ rfl #[(0, .int .i64 8)] rfl (build_mkR 8 _) ?_)
    | (refine wpList_store_new rfl _ _ _ rfl _ (mesC { zeroM with kind := 8 } nS0 nS0 nS0) rfl rfl _ _ mesInfoR rfl (mesC_onesZ _) ?_))
  have hA1 := hA0.below (below_new w0 (.cells (mesC { zeroM with kind := 8 } nS0 nS0 nS0) 34))
  have k3 := mes_new w0 34 { zeroM with kind := 8 } nS0 nS0 nS0
  have hM := hA0.bb.lt
  obtain ⟨M, hMe⟩ : ∃ M, M = w0.heap.size := ⟨_, rfl⟩
  rw [← hMe] at k3 hM
  rw [← hMe]
  refine name_world (fun w1 hw1 => ?_)
  rw [← hw1] at hA1 k3
  clear hw1 hMe hA0 c0
  have pc := mes_crt hA1.bb
  go_upto_region 4 with (first
    | (refine wpList_cells_at rfl _ _ rfl ⟨w.heap.size, 5, none⟩ rfl (crtL m.cert) _ pc Tryz.underlying24 rfl crtInfo ?_)
    | (refine wpList_store_new rfl _ _ _ rfl _ (crtC m.cert) rfl rfl _ _ crtInfo rfl (crtC_ones _) ?_))
  have hb5 := below_new w1 (.cells (crtC m.cert) 24)
  have hA2 := hA1.below hb5
  have k4 := k3.below hb5 k3.lt
  have k5 := L11.box_new w1 24 m.cert
  have hC := k3.lt
  obtain ⟨C, hCe⟩ : ∃ C, C = w1.heap.size := ⟨_, rfl⟩
  rw [← hCe] at k5 hC
  rw [← hCe]
  refine name_world (fun w2 hw2 => ?_)
  rw [← hw2] at hA2 k4 k5
  have hR : RcM w M C m (P) (Q) (T) { zeroM with kind := 8 } nS0 nS0 nS0 w2 := ⟨hA2.bb, k4, k5, hA2.bw, hM, hC⟩
  have c0 : w2.cell? ⟨w.heap.size, 0, none⟩ = some (.int .i64 8) := by rw [← hk]; exact hR.b1.cell 0
  clear hw2 hCe hA1 hA2 k3 k4 k5 hb5 pc hM hC hk
  have e0 : w2.cell? ⟨w.heap.size, 1, none⟩ = some (.int .i64 m.signer) := hR.b1.cell 1
  have o0 : w2.cell? ⟨M, 1, none⟩ = some (.int .i64 0) := hR.b3.cell 1
  have f0 := hR.b3.frozen 1
  have hR3 : RcM w M C m P Q T { zeroM with kind := 8, signer := m.signer } nS0 nS0 nS0 (w2.setCell ⟨M, 1, none⟩ (.int .i64 m.signer)) := hR.cell 1 _ (by kernel_rfl)
  clear hR
  go_upto_region 36 with fail
  refine name_world (fun w3 hw3 => ?_)
  rw [← hw3] at hR3
  clear hw3 e0 o0 f0 c0
  have e1 : w3.cell? ⟨w.heap.size, 3, none⟩ = some (.int .i64 m.n) := hR3.b1.cell 3
  have o1 : w3.cell? ⟨M, 3, none⟩ = some (.int .i64 0) := hR3.b3.cell 3
  have f1 := hR3.b3.frozen 3
  have hR4 : RcM w M C m P Q T (madeM 8 (.wan m.signer m.n)) nS0 nS0 nS0 (w3.setCell ⟨M, 3, none⟩ (.int .i64 m.n)) := hR3.cell 3 _ (by kernel_rfl)
  clear hR3
  go_upto_region 37 with fail
  refine name_world (fun w4 hw4 => ?_)
  rw [← hw4] at hR4
  clear hw4 e1 o1 f1
  have g0 : w4.cell? ⟨w.heap.size, 1, none⟩ = some (.int .i64 m.signer) := hR4.b1.cell 1
  have g1 : w4.cell? ⟨w.heap.size, 3, none⟩ = some (.int .i64 m.n) := hR4.b1.cell 3
  have hS := HS.out w4 hR4.bw
  cases a0
  · go_wp2_with (first
      | (go_at_call 26; refine (signR_is _ _ _ H0.out).mono ?_; rintro e w5 ⟨rfl, rfl⟩))
    go_ret
    exact ⟨rfl, hR4.bw⟩
  by_cases z0 : 1 ≤ m.n
  · by_cases z1 : m.n ≤ 2147483647
    · obtain rfl : a1 = true := by rw [← H1.out]; exact okW_mk z0 z1
      go_wp2_with (first
        | (go_at_call 26; refine (signR_is _ _ _ H0.out).mono ?_; rintro e w5 ⟨rfl, rfl⟩)
        | (refine wpList_row_at rfl _ _ rfl w.heap.size rfl _ _ _ _ hR4.b1 Tryz.underlying34 rfl mesInfoR ?_)
        | (refine wpList_row_at rfl _ _ rfl M rfl _ _ _ _ hR4.b3 Tryz.underlying34 rfl mesInfoR ?_)
        | (go_at_call 12; refine hS.mono ?_; unfold gives; rintro e w9 ⟨rfl, hb9⟩))
      go_ret
      exact ⟨rfl, nxt hR4.bw hb9⟩
    · obtain rfl : a1 = false := by rw [← H1.out]; exact okW_not (by omega)
      go_wp2_with (first
        | (go_at_call 26; refine (signR_is _ _ _ H0.out).mono ?_; rintro e w5 ⟨rfl, rfl⟩))
      go_ret
      exact ⟨rfl, hR4.bw⟩
  · obtain rfl : a1 = false := by rw [← H1.out]; exact okW_not (by omega)
    go_wp2_with (first
      | (go_at_call 26; refine (signR_is _ _ _ H0.out).mono ?_; rintro e w5 ⟨rfl, rfl⟩))
    go_ret
    exact ⟨rfl, hR4.bw⟩
end Go.Proofs.YtgmejaiifibfoaaGreatDoor
