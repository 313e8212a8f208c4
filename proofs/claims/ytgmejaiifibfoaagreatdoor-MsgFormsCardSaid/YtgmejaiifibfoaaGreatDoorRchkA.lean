/-
  May it be a message, by the document: by its kind.
-/
import Derived.Test.YtgmejaiifibfoaaGreatDoorRcM
import Derived.Test.YtgmejaiifibfoaaGreatDoorM5
import Derived.Test.YtgmejaiifibfoaaGreatDoorM3
set_option linter.unusedSimpArgs false
set_option linter.unusedVariables false
set_option maxRecDepth 10000
namespace Go.Proofs.YtgmejaiifibfoaaGreatDoor
open Go.RowKit Go.Maps Go.Lib
open L3 (Blk Reads)
open L6 (Turn)
open L11 (Crt zeroC crtL crtC mayV okW okW_mk okW_not crtInfo crtC_ones wpQuiet_fn)

set_option maxHeartbeats 4000000 in
set_option maxRecDepth 100000 in
theorem rchk_1 (m : Mes) (P Q T : Value) (w : World) (hw : m.wf) (hl : LiesM w m P Q T) (hk : m.kind = 1) : Calls Tryz.prog 9 #[.agg (mesC m P Q T)] w (gives (.bool (mayM m)) w) := by
  have hp : partM m = .blk m.block := by unfold partM; rw [if_pos (.inl hk)]
  have hok : okM m = decide (checkV m.block = 0) := by rw [ok_mayP, hp, hk]; rfl
  have hmay : mayM m = (okM m && sameMV m (madeM 1 (partM m))) := by unfold mayM; rw [sameMV_iff, only_made, hk]
  have how : (madeM 1 (partM m)).wf := made_wf (by unfold inI; omega) (part_wf hw)
  rw [hp] at hmay how
  rw [hok] at hmay
  have F0 := Lib.hid (boxM_mk 34 hl)
  obtain ⟨A, c, rfl, hra, B, d, E, f, rfl, rfl, hp1, ht1⟩ := hl
  obtain ⟨V0, hV0⟩ : ∃ V, V = (Value.slice A m.proof.length c) := ⟨_, rfl⟩
  have hlo : ∀ W, Below w.heap.size w W → LiesM W (madeM 1 (.blk m.block)) nS0 (.slice B m.block.proof.length d) (.slice E m.block.txs.length f) := fun W hb => ⟨none, 0, rfl, Rd.nil, B, d, E, f, rfl, rfl, hp1.below hb, ht1.below hb⟩
  have hlm : ∀ W, Below w.heap.size w W → LiesM W m (.slice A m.proof.length c) (.slice B m.block.proof.length d) (.slice E m.block.txs.length f) := fun W hb => ⟨A, c, rfl, hra.below hb, B, d, E, f, rfl, rfl, hp1.below hb, ht1.below hb⟩
  have HS := Lib.hid (fun W (hb : Below w.heap.size w W) => refSm_any m _ _ _ _ _ _ _ W hw how (hlm W hb) (hlo W hb))
  obtain ⟨b1, hb1⟩ : ∃ b, b = sameMV m (madeM 1 (.blk m.block)) := ⟨_, rfl⟩
  rw [← hb1] at hmay HS
  rw [hmay]
  have hck := fun W (hb : Below w.heap.size w W) => refchk_any m.block B d E f W hw.block (hp1.below hb) (ht1.below hb)
  obtain ⟨r, hr⟩ : ∃ r, r = checkV m.block := ⟨_, rfl⟩
  rw [← hr] at hck ⊢
  obtain ⟨b0, hb0⟩ : ∃ b, decide (r = 0) = b := ⟨_, rfl⟩
  have q := eq0 hb0
  rw [hb0]
  have HC := Lib.hid hck
  clear hck hr hb0 hp1 ht1 hw hra hV0
  clear hmay hok hp how hlo hlm hb1
  go_enter Tryz.func9, Tryz.ntmps9
  go_upto_region 1 with fail
  refine name_world (fun w0 hw0 => ?_)
  have hA0 : BoxM w w.heap.size 34 m (.slice A m.proof.length c) (.slice B m.block.proof.length d) (.slice E m.block.txs.length f) w0 := by rw [hw0]; exact F0.out
  clear hw0 F0
  have c0 : w0.cell? ⟨w.heap.size, 0, none⟩ = some (.int .i64 1) := by rw [← hk]; exact hA0.bb.cell 0
  go_upto_region 3 with (first
    | (refine wpList_build rfl _ _ rfl #[(0, .int .i64 1)] rfl (build_mkR 1 _) ?_)
    | (refine wpList_store_new rfl _ _ _ rfl _ (mesC { zeroM with kind := 1 } nS0 nS0 nS0) rfl rfl _ _ mesInfoR rfl (mesC_onesZ _) ?_))
  have hA1 := hA0.below (below_new w0 (.cells (mesC { zeroM with kind := 1 } nS0 nS0 nS0) 34))
  have k3 := mes_new w0 34 { zeroM with kind := 1 } nS0 nS0 nS0
  have hM := hA0.bb.lt
  obtain ⟨M, hMe⟩ : ∃ M, M = w0.heap.size := ⟨_, rfl⟩
  rw [← hMe] at k3 hM
  rw [← hMe]
  refine name_world (fun w1 hw1 => ?_)
  rw [← hw1] at hA1 k3
  clear hw1 hMe hA0 c0
  have pc := mes_crt hA1.bb
  go_upto_region 4 with (first
    | (refine wpList_cells_at rfl _ _ rfl ⟨w.heap.size, 5, none⟩ rfl (crtL m.cert) _ pc Tryz.underlying24 rfl crtInfo ?_)
    | (refine wpList_store_new rfl _ _ _ rfl _ (crtC m.cert) rfl rfl _ _ crtInfo rfl (crtC_ones _) ?_))
  have hb5 := below_new w1 (.cells (crtC m.cert) 24)
  have hA2 := hA1.below hb5
  have k4 := k3.below hb5 k3.lt
  have k5 := L11.box_new w1 24 m.cert
  have hC := k3.lt
  obtain ⟨C, hCe⟩ : ∃ C, C = w1.heap.size := ⟨_, rfl⟩
  rw [← hCe] at k5 hC
  rw [← hCe]
  refine name_world (fun w2 hw2 => ?_)
  rw [← hw2] at hA2 k4 k5
  have hR : RcM w M C m (.slice A m.proof.length c) (.slice B m.block.proof.length d) (.slice E m.block.txs.length f) { zeroM with kind := 1 } nS0 nS0 nS0 w2 := ⟨hA2.bb, k4, k5, hA2.bw, hM, hC⟩
  have c0 : w2.cell? ⟨w.heap.size, 0, none⟩ = some (.int .i64 1) := by rw [← hk]; exact hR.b1.cell 0
  clear hw2 hCe hA1 hA2 k3 k4 k5 hb5 pc hM hC hk
  have pb := mes_blo hR.b1
  have hth : w2.there M 24 (bloC m.block (.slice B m.block.proof.length d) (.slice E m.block.txs.length f)).size := blk_there hR.b3 (by show 24 + 14 ≤ 45; omega)
  go_upto_region 8 with (first
    | (refine wpList_cells_at rfl _ _ rfl ⟨w.heap.size, 24, none⟩ rfl (bloL m.block (.slice B m.block.proof.length d) (.slice E m.block.txs.length f)) _ pb Tryz.underlying30 rfl (bloInfoL _ _ _) ?_)
    | (refine wpList_store_midN rfl _ _ _ rfl M 24 (bloC m.block (.slice B m.block.proof.length d) (.slice E m.block.txs.length f)) rfl rfl hth bloInfo (bloC_ones _ _ _ _ _ _ _) ?_; rintro w3 hw3; have hR3 : RcM w M C m (.slice A m.proof.length c) (.slice B m.block.proof.length d) (.slice E m.block.txs.length f) (madeM 1 (.blk m.block)) nS0 (.slice B m.block.proof.length d) (.slice E m.block.txs.length f) w3 := (by rw [hw3]; exact hR.blk m.block (.slice B m.block.proof.length d) (.slice E m.block.txs.length f)); clear hw3))
  have pb3 := mes_blo hR3.b1
  have hC := HC.out w3 hR3.bw
  have HS2 := HS
  clear hR pb hth c0 HC
  cases b0
  · go_wp2_with (first
      | (refine wpList_cells_at rfl _ _ rfl ⟨w.heap.size, 24, none⟩ rfl (bloL m.block (.slice B m.block.proof.length d) (.slice E m.block.txs.length f)) _ pb3 Tryz.underlying30 rfl (bloInfoL _ _ _) ?_)
      | (go_at_call 22; refine hC.mono ?_; unfold gives; rintro e w4 ⟨rfl, hb4⟩))
    go_ret
    exact ⟨rfl, nxt hR3.bw hb4⟩
  · go_wp2_with (first
      | (refine wpList_cells_at rfl _ _ rfl ⟨w.heap.size, 24, none⟩ rfl (bloL m.block (.slice B m.block.proof.length d) (.slice E m.block.txs.length f)) _ pb3 Tryz.underlying30 rfl (bloInfoL _ _ _) ?_)
      | (go_at_call 22; refine hC.mono ?_; unfold gives; rintro e w4 ⟨rfl, hb4⟩; have hR4 := hR3.below hb4; have hS := HS.out w4 hR4.bw)
      | (refine wpList_row_at rfl _ _ rfl w.heap.size rfl _ _ _ _ hR4.b1 Tryz.underlying34 rfl mesInfoR ?_)
      | (refine wpList_row_at rfl _ _ rfl M rfl _ _ _ _ hR4.b3 Tryz.underlying34 rfl mesInfoR ?_)
      | (go_at_call 12; refine hS.mono ?_; unfold gives; rintro e w9 ⟨rfl, hb9⟩))
    go_ret
    exact ⟨rfl, nxt hR4.bw hb9⟩
set_option maxHeartbeats 4000000 in
set_option maxRecDepth 100000 in
theorem rchk_9 (m : Mes) (P Q T : Value) (w : World) (hw : m.wf) (hl : LiesM w m P Q T) (hk : m.kind = 9) : Calls Tryz.prog 9 #[.agg (mesC m P Q T)] w (gives (.bool (mayM m)) w) := by
  have hp : partM m = .blk m.block := by unfold partM; rw [if_pos (.inr hk)]
  have hok : okM m = decide (checkV m.block = 0) := by rw [ok_mayP, hp, hk]; rfl
  have hmay : mayM m = (okM m && sameMV m (madeM 9 (partM m))) := by unfold mayM; rw [sameMV_iff, only_made, hk]
  have how : (madeM 9 (partM m)).wf := made_wf (by unfold inI; omega) (part_wf hw)
  rw [hp] at hmay how
  rw [hok] at hmay
  have F0 := Lib.hid (boxM_mk 34 hl)
  obtain ⟨A, c, rfl, hra, B, d, E, f, rfl, rfl, hp1, ht1⟩ := hl
  obtain ⟨V0, hV0⟩ : ∃ V, V = (Value.slice A m.proof.length c) := ⟨_, rfl⟩
  have hlo : ∀ W, Below w.heap.size w W → LiesM W (madeM 9 (.blk m.block)) nS0 (.slice B m.block.proof.length d) (.slice E m.block.txs.length f) := fun W hb => ⟨none, 0, rfl, Rd.nil, B, d, E, f, rfl, rfl, hp1.below hb, ht1.below hb⟩
  have hlm : ∀ W, Below w.heap.size w W → LiesM W m (.slice A m.proof.length c) (.slice B m.block.proof.length d) (.slice E m.block.txs.length f) := fun W hb => ⟨A, c, rfl, hra.below hb, B, d, E, f, rfl, rfl, hp1.below hb, ht1.below hb⟩
  have HS := Lib.hid (fun W (hb : Below w.heap.size w W) => refSm_any m _ _ _ _ _ _ _ W hw how (hlm W hb) (hlo W hb))
  obtain ⟨b1, hb1⟩ : ∃ b, b = sameMV m (madeM 9 (.blk m.block)) := ⟨_, rfl⟩
  rw [← hb1] at hmay HS
  rw [hmay]
  have hck := fun W (hb : Below w.heap.size w W) => refchk_any m.block B d E f W hw.block (hp1.below hb) (ht1.below hb)
  obtain ⟨r, hr⟩ : ∃ r, r = checkV m.block := ⟨_, rfl⟩
  rw [← hr] at hck ⊢
  obtain ⟨b0, hb0⟩ : ∃ b, decide (r = 0) = b := ⟨_, rfl⟩
  have q := eq0 hb0
  rw [hb0]
  have HC := Lib.hid hck
  clear hck hr hb0 hp1 ht1 hw hra hV0
  clear hmay hok hp how hlo hlm hb1
  go_enter Tryz.func9, Tryz.ntmps9
  go_upto_region 1 with fail
  refine name_world (fun w0 hw0 => ?_)
  have hA0 : BoxM w w.heap.size 34 m (.slice A m.proof.length c) (.slice B m.block.proof.length d) (.slice E m.block.txs.length f) w0 := by rw [hw0]; exact F0.out
  clear hw0 F0
  have c0 : w0.cell? ⟨w.heap.size, 0, none⟩ = some (.int .i64 9) := by rw [← hk]; exact hA0.bb.cell 0
  go_upto_region 3 with (first
    | (refine wpList_build rfl _ _ rfl #[(0, .int .i64 9)] rfl (build_mkR 9 _) ?_)
    | (refine wpList_store_new rfl _ _ _ rfl _ (mesC { zeroM with kind := 9 } nS0 nS0 nS0) rfl rfl _ _ mesInfoR rfl (mesC_onesZ _) ?_))
  have hA1 := hA0.below (below_new w0 (.cells (mesC { zeroM with kind := 9 } nS0 nS0 nS0) 34))
  have k3 := mes_new w0 34 { zeroM with kind := 9 } nS0 nS0 nS0
  have hM := hA0.bb.lt
  obtain ⟨M, hMe⟩ : ∃ M, M = w0.heap.size := ⟨_, rfl⟩
  rw [← hMe] at k3 hM
  rw [← hMe]
  refine name_world (fun w1 hw1 => ?_)
  rw [← hw1] at hA1 k3
  clear hw1 hMe hA0 c0
  have pc := mes_crt hA1.bb
  go_upto_region 4 with (first
    | (refine wpList_cells_at rfl _ _ rfl ⟨w.heap.size, 5, none⟩ rfl (crtL m.cert) _ pc Tryz.underlying24 rfl crtInfo ?_)
    | (refine wpList_store_new rfl _ _ _ rfl _ (crtC m.cert) rfl rfl _ _ crtInfo rfl (crtC_ones _) ?_))
  have hb5 := below_new w1 (.cells (crtC m.cert) 24)
  have hA2 := hA1.below hb5
  have k4 := k3.below hb5 k3.lt
  have k5 := L11.box_new w1 24 m.cert
  have hC := k3.lt
  obtain ⟨C, hCe⟩ : ∃ C, C = w1.heap.size := ⟨_, rfl⟩
  rw [← hCe] at k5 hC
  rw [← hCe]
  refine name_world (fun w2 hw2 => ?_)
  rw [← hw2] at hA2 k4 k5
  have hR : RcM w M C m (.slice A m.proof.length c) (.slice B m.block.proof.length d) (.slice E m.block.txs.length f) { zeroM with kind := 9 } nS0 nS0 nS0 w2 := ⟨hA2.bb, k4, k5, hA2.bw, hM, hC⟩
  have c0 : w2.cell? ⟨w.heap.size, 0, none⟩ = some (.int .i64 9) := by rw [← hk]; exact hR.b1.cell 0
  clear hw2 hCe hA1 hA2 k3 k4 k5 hb5 pc hM hC hk
  have pb := mes_blo hR.b1
  have hth : w2.there M 24 (bloC m.block (.slice B m.block.proof.length d) (.slice E m.block.txs.length f)).size := blk_there hR.b3 (by show 24 + 14 ≤ 45; omega)
  go_upto_region 8 with (first
    | (refine wpList_cells_at rfl _ _ rfl ⟨w.heap.size, 24, none⟩ rfl (bloL m.block (.slice B m.block.proof.length d) (.slice E m.block.txs.length f)) _ pb Tryz.underlying30 rfl (bloInfoL _ _ _) ?_)
    | (refine wpList_store_midN rfl _ _ _ rfl M 24 (bloC m.block (.slice B m.block.proof.length d) (.slice E m.block.txs.length f)) rfl rfl hth bloInfo (bloC_ones _ _ _ _ _ _ _) ?_; rintro w3 hw3; have hR3 : RcM w M C m (.slice A m.proof.length c) (.slice B m.block.proof.length d) (.slice E m.block.txs.length f) (madeM 9 (.blk m.block)) nS0 (.slice B m.block.proof.length d) (.slice E m.block.txs.length f) w3 := (by rw [hw3]; exact hR.blk m.block (.slice B m.block.proof.length d) (.slice E m.block.txs.length f)); clear hw3))
  have pb3 := mes_blo hR3.b1
  have hC := HC.out w3 hR3.bw
  have HS2 := HS
  clear hR pb hth c0 HC
  cases b0
  · go_wp2_with (first
      | (refine wpList_cells_at rfl _ _ rfl ⟨w.heap.size, 24, none⟩ rfl (bloL m.block (.slice B m.block.proof.length d) (.slice E m.block.txs.length f)) _ pb3 Tryz.underlying30 rfl (bloInfoL _ _ _) ?_)
      | (go_at_call 22; refine hC.mono ?_; unfold gives; rintro e w4 ⟨rfl, hb4⟩))
    go_ret
    exact ⟨rfl, nxt hR3.bw hb4⟩
  · go_wp2_with (first
      | (refine wpList_cells_at rfl _ _ rfl ⟨w.heap.size, 24, none⟩ rfl (bloL m.block (.slice B m.block.proof.length d) (.slice E m.block.txs.length f)) _ pb3 Tryz.underlying30 rfl (bloInfoL _ _ _) ?_)
      | (go_at_call 22; refine hC.mono ?_; unfold gives; rintro e w4 ⟨rfl, hb4⟩; have hR4 := hR3.below hb4; have hS := HS.out w4 hR4.bw)
      | (refine wpList_row_at rfl _ _ rfl w.heap.size rfl _ _ _ _ hR4.b1 Tryz.underlying34 rfl mesInfoR ?_)
      | (refine wpList_row_at rfl _ _ rfl M rfl _ _ _ _ hR4.b3 Tryz.underlying34 rfl mesInfoR ?_)
      | (go_at_call 12; refine hS.mono ?_; unfold gives; rintro e w9 ⟨rfl, hb9⟩))
    go_ret
    exact ⟨rfl, nxt hR4.bw hb9⟩
set_option maxHeartbeats 4000000 in
set_option maxRecDepth 100000 in
theorem rchk_3 (m : Mes) (P Q T : Value) (w : World) (hw : m.wf) (hl : LiesM w m P Q T) (hk : m.kind = 3) : Calls Tryz.prog 9 #[.agg (mesC m P Q T)] w (gives (.bool (mayM m)) w) := by
  have hp : partM m = .tmo m.tm := by unfold partM; rw [if_neg (by unfold hasB; omega), if_neg (by unfold hasC; omega), if_pos hk]
  have hok : okM m = tmoV m.tm := by rw [ok_mayP, hp, hk]; rfl
  have hmay : mayM m = (okM m && sameMV m (madeM 3 (partM m))) := by unfold mayM; rw [sameMV_iff, only_made, hk]
  have how : (madeM 3 (partM m)).wf := made_wf (by unfold inI; omega) (part_wf hw)
  rw [hp] at hmay how
  rw [hok] at hmay
  have F0 := Lib.hid (boxM_mk 34 hl)
  have hlo : ∀ W, Below w.heap.size w W → LiesM W (madeM 3 (.tmo m.tm)) nS0 nS0 nS0 := fun W hb => liesM_zero W _ rfl rfl
  have hlm : ∀ W, Below w.heap.size w W → LiesM W m P Q T := fun W hb => hl.below hb
  have HS := Lib.hid (fun W (hb : Below w.heap.size w W) => refSm_any m _ _ _ _ _ _ _ W hw how (hlm W hb) (hlo W hb))
  obtain ⟨b1, hb1⟩ : ∃ b, b = sameMV m (madeM 3 (.tmo m.tm)) := ⟨_, rfl⟩
  rw [← hb1] at hmay HS
  rw [hmay]
  have hck := fun W => reftm_any m.tm W hw.tm
  obtain ⟨b0, hb0⟩ : ∃ b, tmoV m.tm = b := ⟨_, rfl⟩
  rw [hb0] at hck
  rw [hb0]
  have HC := Lib.hid hck
  clear hck hb0 hw hl
  clear hmay hok hp how hlo hlm hb1
  go_enter Tryz.func9, Tryz.ntmps9
  go_upto_region 1 with fail
  refine name_world (fun w0 hw0 => ?_)
  have hA0 : BoxM w w.heap.size 34 m (P) (Q) (T) w0 := by rw [hw0]; exact F0.out
  clear hw0 F0
  have c0 : w0.cell? ⟨w.heap.size, 0, none⟩ = some (.int .i64 3) := by rw [← hk]; exact hA0.bb.cell 0
  go_upto_region 3 with (first
    | (refine wpList_build rfl _ _ rfl #[(0, .int .i64 3)] rfl (build_mkR 3 _) ?_)
    | (refine wpList_store_new rfl _ _ _ rfl _ (mesC { zeroM with kind := 3 } nS0 nS0 nS0) rfl rfl _ _ mesInfoR rfl (mesC_onesZ _) ?_))
  have hA1 := hA0.below (below_new w0 (.cells (mesC { zeroM with kind := 3 } nS0 nS0 nS0) 34))
  have k3 := mes_new w0 34 { zeroM with kind := 3 } nS0 nS0 nS0
  have hM := hA0.bb.lt
  obtain ⟨M, hMe⟩ : ∃ M, M = w0.heap.size := ⟨_, rfl⟩
  rw [← hMe] at k3 hM
  rw [← hMe]
  refine name_world (fun w1 hw1 => ?_)
  rw [← hw1] at hA1 k3
  clear hw1 hMe hA0 c0
  have pc := mes_crt hA1.bb
  go_upto_region 4 with (first
    | (refine wpList_cells_at rfl _ _ rfl ⟨w.heap.size, 5, none⟩ rfl (crtL m.cert) _ pc Tryz.underlying24 rfl crtInfo ?_)
    | (refine wpList_store_new rfl _ _ _ rfl _ (crtC m.cert) rfl rfl _ _ crtInfo rfl (crtC_ones _) ?_))
  have hb5 := below_new w1 (.cells (crtC m.cert) 24)
  have hA2 := hA1.below hb5
  have k4 := k3.below hb5 k3.lt
  have k5 := L11.box_new w1 24 m.cert
  have hC := k3.lt
  obtain ⟨C, hCe⟩ : ∃ C, C = w1.heap.size := ⟨_, rfl⟩
  rw [← hCe] at k5 hC
  rw [← hCe]
  refine name_world (fun w2 hw2 => ?_)
  rw [← hw2] at hA2 k4 k5
  have hR : RcM w M C m (P) (Q) (T) { zeroM with kind := 3 } nS0 nS0 nS0 w2 := ⟨hA2.bb, k4, k5, hA2.bw, hM, hC⟩
  have c0 : w2.cell? ⟨w.heap.size, 0, none⟩ = some (.int .i64 3) := by rw [← hk]; exact hR.b1.cell 0
  clear hw2 hCe hA1 hA2 k3 k4 k5 hb5 pc hM hC hk
  have pb := mes_tmo hR.b1
  have hth : w2.there M 13 (tmC m.tm).size := blk_there hR.b3 (by show 13 + 10 ≤ 45; omega)
  go_upto_region 14 with (first
    | (refine wpList_cells_at rfl _ _ rfl ⟨w.heap.size, 13, none⟩ rfl (tmL m.tm) _ pb Tryz.underlying26 rfl (tmInfoL _) ?_)
    | (refine wpList_store_midN rfl _ _ _ rfl M 13 (tmC m.tm) rfl rfl hth tmInfo (tmC_ones _) ?_; rintro w3 hw3; have hR3 : RcM w M C m P Q T (madeM 3 (.tmo m.tm)) nS0 nS0 nS0 w3 := (by rw [hw3]; exact hR.tmo m.tm); clear hw3))
  have pb3 := mes_tmo hR3.b1
  have hC := HC.out w3
  clear hR pb hth c0 HC
  cases b0
  · go_wp2_with (first
      | (refine wpList_cells_at rfl _ _ rfl ⟨w.heap.size, 13, none⟩ rfl (tmL m.tm) _ pb3 Tryz.underlying26 rfl (tmInfoL _) ?_)
      | (go_at_call 25; refine hC.mono ?_; unfold gives; rintro e w4 ⟨rfl, hb4⟩))
    go_ret
    exact ⟨rfl, nxt hR3.bw hb4⟩
  · go_wp2_with (first
      | (refine wpList_cells_at rfl _ _ rfl ⟨w.heap.size, 13, none⟩ rfl (tmL m.tm) _ pb3 Tryz.underlying26 rfl (tmInfoL _) ?_)
      | (go_at_call 25; refine hC.mono ?_; unfold gives; rintro e w4 ⟨rfl, hb4⟩; have hR4 := hR3.below hb4; have hS := HS.out w4 hR4.bw)
      | (refine wpList_row_at rfl _ _ rfl w.heap.size rfl _ _ _ _ hR4.b1 Tryz.underlying34 rfl mesInfoR ?_)
      | (refine wpList_row_at rfl _ _ rfl M rfl _ _ _ _ hR4.b3 Tryz.underlying34 rfl mesInfoR ?_)
      | (go_at_call 12; refine hS.mono ?_; unfold gives; rintro e w9 ⟨rfl, hb9⟩))
    go_ret
    exact ⟨rfl, nxt hR4.bw hb9⟩
set_option maxHeartbeats 4000000 in
set_option maxRecDepth 100000 in
theorem rchk_11 (m : Mes) (P Q T : Value) (w : World) (hw : m.wf) (hl : LiesM w m P Q T) (hk : m.kind = 11) : Calls Tryz.prog 9 #[.agg (mesC m P Q T)] w (gives (.bool (mayM m)) w) := by
  have hp : partM m = .txx m.tx := by unfold partM; rw [if_neg (by unfold hasB; omega), if_neg (by unfold hasC; omega), if_neg (by omega), if_neg (by omega), if_neg (by unfold hasV; omega), if_neg (by omega), if_neg (by omega), if_pos hk]
  have hok : okM m = right m.tx := by rw [ok_mayP, hp, hk]; rfl
  have hmay : mayM m = (okM m && sameMV m (madeM 11 (partM m))) := by unfold mayM; rw [sameMV_iff, only_made, hk]
  have how : (madeM 11 (partM m)).wf := made_wf (by unfold inI; omega) (part_wf hw)
  rw [hp] at hmay how
  rw [hok] at hmay
  have F0 := Lib.hid (boxM_mk 34 hl)
  have hlo : ∀ W, Below w.heap.size w W → LiesM W (madeM 11 (.txx m.tx)) nS0 nS0 nS0 := fun W hb => liesM_zero W _ rfl rfl
  have hlm : ∀ W, Below w.heap.size w W → LiesM W m P Q T := fun W hb => hl.below hb
  have HS := Lib.hid (fun W (hb : Below w.heap.size w W) => refSm_any m _ _ _ _ _ _ _ W hw how (hlm W hb) (hlo W hb))
  obtain ⟨b1, hb1⟩ : ∃ b, b = sameMV m (madeM 11 (.txx m.tx)) := ⟨_, rfl⟩
  rw [← hb1] at hmay HS
  rw [hmay]
  have hck := fun W => refcheck_any m.tx W hw.tx
  obtain ⟨b0, hb0⟩ : ∃ b, right m.tx = b := ⟨_, rfl⟩
  rw [hb0] at hck
  rw [hb0]
  have HC := Lib.hid hck
  clear hck hb0 hw hl
  clear hmay hok hp how hlo hlm hb1
  go_enter Tryz.func9, Tryz.ntmps9
  go_upto_region 1 with fail
  refine name_world (fun w0 hw0 => ?_)
  have hA0 : BoxM w w.heap.size 34 m (P) (Q) (T) w0 := by rw [hw0]; exact F0.out
  clear hw0 F0
  have c0 : w0.cell? ⟨w.heap.size, 0, none⟩ = some (.int .i64 11) := by rw [← hk]; exact hA0.bb.cell 0
  go_upto_region 3 with (first
    | (refine wpList_build rfl _ _ rfl #[(0, .int .i64 11)] rfl (build_mkR 11 _) ?_)
    | (refine wpList_store_new rfl _ _ _ rfl _ (mesC { zeroM with kind := 11 } nS0 nS0 nS0) rfl rfl _ _ mesInfoR rfl (mesC_onesZ _) ?_))
  have hA1 := hA0.below (below_new w0 (.cells (mesC { zeroM with kind := 11 } nS0 nS0 nS0) 34))
  have k3 := mes_new w0 34 { zeroM with kind := 11 } nS0 nS0 nS0
  have hM := hA0.bb.lt
  obtain ⟨M, hMe⟩ : ∃ M, M = w0.heap.size := ⟨_, rfl⟩
  rw [← hMe] at k3 hM
  rw [← hMe]
  refine name_world (fun w1 hw1 => ?_)
  rw [← hw1] at hA1 k3
  clear hw1 hMe hA0 c0
  have pc := mes_crt hA1.bb
  go_upto_region 4 with (first
    | (refine wpList_cells_at rfl _ _ rfl ⟨w.heap.size, 5, none⟩ rfl (crtL m.cert) _ pc Tryz.underlying24 rfl crtInfo ?_)
    | (refine wpList_store_new rfl _ _ _ rfl _ (crtC m.cert) rfl rfl _ _ crtInfo rfl (crtC_ones _) ?_))
  have hb5 := below_new w1 (.cells (crtC m.cert) 24)
  have hA2 := hA1.below hb5
  have k4 := k3.below hb5 k3.lt
  have k5 := L11.box_new w1 24 m.cert
  have hC := k3.lt
  obtain ⟨C, hCe⟩ : ∃ C, C = w1.heap.size := ⟨_, rfl⟩
  rw [← hCe] at k5 hC
  rw [← hCe]
  refine name_world (fun w2 hw2 => ?_)
  rw [← hw2] at hA2 k4 k5
  have hR : RcM w M C m (P) (Q) (T) { zeroM with kind := 11 } nS0 nS0 nS0 w2 := ⟨hA2.bb, k4, k5, hA2.bw, hM, hC⟩
  have c0 : w2.cell? ⟨w.heap.size, 0, none⟩ = some (.int .i64 11) := by rw [← hk]; exact hR.b1.cell 0
  clear hw2 hCe hA1 hA2 k3 k4 k5 hb5 pc hM hC hk
  have pb := mes_tx hR.b1
  have hth : w2.there M 38 (txC m.tx).size := blk_there hR.b3 (by show 38 + 7 ≤ 45; omega)
  go_upto_region 43 with (first
    | (refine wpList_cells_at rfl _ _ rfl ⟨w.heap.size, 38, none⟩ rfl (txL m.tx) _ pb Tryz.underlying32 rfl (txInfoL _) ?_)
    | (refine wpList_store_midN rfl _ _ _ rfl M 38 (txC m.tx) rfl rfl hth txInfo (txC_ones _) ?_; rintro w3 hw3; have hR3 : RcM w M C m P Q T (madeM 11 (.txx m.tx)) nS0 nS0 nS0 w3 := (by rw [hw3]; exact hR.txx m.tx); clear hw3))
  have pb3 := mes_tx hR3.b1
  have hC := HC.out w3
  clear hR pb hth c0 HC
  cases b0
  · go_wp2_with (first
      | (refine wpList_cells_at rfl _ _ rfl ⟨w.heap.size, 38, none⟩ rfl (txL m.tx) _ pb3 Tryz.underlying32 rfl (txInfoL _) ?_)
      | (go_at_call 28; refine hC.mono ?_; unfold gives; rintro e w4 ⟨rfl, hb4⟩))
    go_ret
    exact ⟨rfl, nxt hR3.bw hb4⟩
  · go_wp2_with (first
      | (refine wpList_cells_at rfl _ _ rfl ⟨w.heap.size, 38, none⟩ rfl (txL m.tx) _ pb3 Tryz.underlying32 rfl (txInfoL _) ?_)
      | (go_at_call 28; refine hC.mono ?_; unfold gives; rintro e w4 ⟨rfl, hb4⟩; have hR4 := hR3.below hb4; have hS := HS.out w4 hR4.bw)
      | (refine wpList_row_at rfl _ _ rfl w.heap.size rfl _ _ _ _ hR4.b1 Tryz.underlying34 rfl mesInfoR ?_)
      | (refine wpList_row_at rfl _ _ rfl M rfl _ _ _ _ hR4.b3 Tryz.underlying34 rfl mesInfoR ?_)
      | (go_at_call 12; refine hS.mono ?_; unfold gives; rintro e w9 ⟨rfl, hb9⟩))
    go_ret
    exact ⟨rfl, nxt hR4.bw hb9⟩
end Go.Proofs.YtgmejaiifibfoaaGreatDoor
