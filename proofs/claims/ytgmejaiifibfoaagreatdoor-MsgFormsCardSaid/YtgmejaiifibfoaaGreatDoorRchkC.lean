/-
  May it be a message, by the document: by its kind.
-/
import Derived.Test.YtgmejaiifibfoaaGreatDoorRcM
import Derived.Test.YtgmejaiifibfoaaGreatDoorM5
import Derived.Test.YtgmejaiifibfoaaGreatDoorM3
set_option linter.unusedSimpArgs false
set_option linter.unusedVariables false
set_option maxRecDepth 10000
namespace Go.Proofs.YtgmejaiifibfoaaGreatDoor
open Go.RowKit Go.Maps Go.Lib
open L3 (Blk Reads)
open L6 (Turn)
open L11 (Crt zeroC crtL crtC mayV okW okW_mk okW_not crtInfo crtC_ones wpQuiet_fn)

set_option maxHeartbeats 4000000 in
set_option maxRecDepth 100000 in
theorem rchk_5 (m : Mes) (P Q T : Value) (w : World) (hw : m.wf) (hl : LiesM w m P Q T) (hk : m.kind = 5) : Calls Tryz.prog 9 #[.agg (mesC m P Q T)] w (gives (.bool (mayM m)) w) := by
  have hp : partM m = .crt m.cert := by unfold partM; rw [if_neg (by unfold hasB; omega), if_pos (.inr (.inl hk))]
  have hok : okM m = cerC 5 m.cert := by rw [ok_mayP, hp, hk]; rfl
  have hmay : mayM m = (okM m && sameMV m (madeM 5 (partM m))) := by unfold mayM; rw [sameMV_iff, only_made, hk]
  have how : (madeM 5 (partM m)).wf := made_wf (by unfold inI; omega) (part_wf hw)
  rw [hp] at hmay how
  rw [hok] at hmay
  have F0 := Lib.hid (boxM_mk 34 hl)
  have hlo : ∀ W, Below w.heap.size w W → LiesM W (madeM 5 (.crt m.cert)) nS0 nS0 nS0 := fun W hb => liesM_zero W _ rfl rfl
  have hlm : ∀ W, Below w.heap.size w W → LiesM W m P Q T := fun W hb => hl.below hb
  have HS := Lib.hid (fun W (hb : Below w.heap.size w W) => refSm_any m _ _ _ _ _ _ _ W hw how (hlm W hb) (hlo W hb))
  obtain ⟨b1, hb1⟩ : ∃ b, b = sameMV m (madeM 5 (.crt m.cert)) := ⟨_, rfl⟩
  rw [← hb1] at hmay HS
  rw [hmay]
  have hsg : m.cert.sg < 4294967296 := hw.cert.2.2.2.2.2.2.1
  have hck := fun W => L11.refcheck_any m.cert W hw.cert
  have hli := fun W => list_cnt m.cert.sg W hsg
  obtain ⟨a0, h0⟩ : ∃ b, mayV m.cert = b := ⟨_, rfl⟩
  rw [h0] at hck
  obtain ⟨a1, ha1⟩ : ∃ b, decide (m.cert.kind = 2) = b := ⟨_, rfl⟩
  obtain ⟨q1, _⟩ := int_dec ha1
  obtain ⟨a2, ha2⟩ : ∃ b, decide (m.cert.height = 3) = b := ⟨_, rfl⟩
  obtain ⟨q2, _⟩ := int_dec ha2
  obtain ⟨a3, ha3⟩ : ∃ b, decide (m.cert.co = 0) = b := ⟨_, rfl⟩
  have q3 : ((m.cert.co : Int) == 0) = a3 := nat_dec 0 ha3
  have hcer : cerC 5 m.cert = (a0 && (a1 && (a2 && a3))) := by unfold cerC donC; rw [if_neg (by omega), if_pos rfl]; simp only [h0, ha1, ha2, ha3]
  rw [hcer]
  have HC := Lib.hid hck
  have HLI := Lib.hid hli
  clear hck hli h0 hcer hw hl hsg ha1 ha2 ha3
  clear hmay hok hp how hlo hlm hb1
  go_enter Tryz.func9, Tryz.ntmps9
  go_upto_region 1 with fail
  refine name_world (fun w0 hw0 => ?_)
  have hA0 : BoxM w w.heap.size 34 m (P) (Q) (T) w0 := by rw [hw0]; exact F0.out
  clear hw0 F0
  have c0 : w0.cell? ⟨w.heap.size, 0, none⟩ = some (.int .i64 5) := by rw [← hk]; exact hA0.bb.cell 0
  go_upto_region 3 with (first
    | (refine wpList_build rfl _ _ rfl #[(0, .int .i64 5)] rfl (build_mkR 5 _) ?_)
    | (refine wpList_store_new rfl _ _ _ rfl _ (mesC { zeroM with kind := 5 } nS0 nS0 nS0) rfl rfl _ _ mesInfoR rfl (mesC_onesZ _) ?_))
  have hA1 := hA0.below (below_new w0 (.cells (mesC { zeroM with kind := 5 } nS0 nS0 nS0) 34))
  have k3 := mes_new w0 34 { zeroM with kind := 5 } nS0 nS0 nS0
  have hM := hA0.bb.lt
  obtain ⟨M, hMe⟩ : ∃ M, M = w0.heap.size := ⟨_, rfl⟩
  rw [← hMe] at k3 hM
  rw [← hMe]
  refine name_world (fun w1 hw1 => ?_)
  rw [← hw1] at hA1 k3
  clear hw1 hMe hA0 c0
  have pc := mes_crt hA1.bb
  go_upto_region 4 with (first
    | (refine wpList_cells_at rfl _ _ rfl ⟨w.heap.size, 5, none⟩ rfl (crtL m.cert) _ pc Tryz.underlying24 rfl crtInfo ?_)
    | (refine wpList_store_new rfl _ _ _ rfl _ (crtC m.cert) rfl rfl _ _ crtInfo rfl (crtC_ones _) ?_))
  have hb5 := below_new w1 (.cells (crtC m.cert) 24)
  have hA2 := hA1.below hb5
  have k4 := k3.below hb5 k3.lt
  have k5 := L11.box_new w1 24 m.cert
  have hC := k3.lt
  obtain ⟨C, hCe⟩ : ∃ C, C = w1.heap.size := ⟨_, rfl⟩
  rw [← hCe] at k5 hC
  rw [← hCe]
  refine name_world (fun w2 hw2 => ?_)
  rw [← hw2] at hA2 k4 k5
  have hR : RcM w M C m (P) (Q) (T) { zeroM with kind := 5 } nS0 nS0 nS0 w2 := ⟨hA2.bb, k4, k5, hA2.bw, hM, hC⟩
  have c0 : w2.cell? ⟨w.heap.size, 0, none⟩ = some (.int .i64 5) := by rw [← hk]; exact hR.b1.cell 0
  clear hw2 hCe hA1 hA2 k3 k4 k5 hb5 pc hM hC hk
  have hth : w2.there M 5 (crtC m.cert).size := blk_there hR.b3 (by show 5 + 8 ≤ 45; omega)
  go_upto_region 24 with (first
    | (refine wpList_row_at rfl _ _ rfl C rfl _ _ _ _ hR.b5 Tryz.underlying24 rfl crtInfo ?_)
    | (refine wpList_store_midN rfl _ _ _ rfl M 5 (crtC m.cert) rfl rfl hth crtInfo (crtC_ones _) ?_; rintro w3 hw3; have hR3 : RcM w M C m P Q T (madeM 5 (.crt m.cert)) nS0 nS0 nS0 w3 := (by rw [hw3]; exact hR.crt m.cert); clear hw3))
  have hC := HC.out w3
  have K5 := Lib.hid (fun W (hb : Below w3.heap.size w3 W) => (hR3.below hb).b5)
  clear hR hth c0 HC
  rcases fourB a0 a1 a2 a3 with z0 | ⟨z0, z1⟩ | ⟨z0, z1, z2⟩ | ⟨z0, z1, z2, z3⟩ | ⟨z0, z1, z2, z3⟩
  · subst z0
    go_wp2_with (first
      | (refine wpList_row_at rfl _ _ rfl C rfl _ _ _ _ hR3.b5 Tryz.underlying24 rfl crtInfo ?_)
      | (go_at_call 23; refine hC.mono ?_; unfold L11.gives; rintro e w4 ⟨rfl, hb4⟩; have hR4 := hR3.below hb4; have d0 : w4.cell? ⟨C, 0, none⟩ = some (.int .i64 m.cert.kind) := hR4.b5.cell 0; have d4 : w4.cell? ⟨C, 4, none⟩ = some (.int .i64 m.cert.height) := hR4.b5.cell 4; have d6 : w4.cell? ⟨C, 6, none⟩ = some (.int .u32 m.cert.sg) := hR4.b5.cell 6; have d7 : w4.cell? ⟨C, 7, none⟩ = some (.int .u32 m.cert.co) := hR4.b5.cell 7))
    go_ret
    exact ⟨rfl, nxt hR3.bw hb4⟩
  · subst z0 z1
    go_wp2_with (first
      | (refine wpList_row_at rfl _ _ rfl C rfl _ _ _ _ hR3.b5 Tryz.underlying24 rfl crtInfo ?_)
      | (go_at_call 23; refine hC.mono ?_; unfold L11.gives; rintro e w4 ⟨rfl, hb4⟩; have hR4 := hR3.below hb4; have d0 : w4.cell? ⟨C, 0, none⟩ = some (.int .i64 m.cert.kind) := hR4.b5.cell 0; have d4 : w4.cell? ⟨C, 4, none⟩ = some (.int .i64 m.cert.height) := hR4.b5.cell 4; have d6 : w4.cell? ⟨C, 6, none⟩ = some (.int .u32 m.cert.sg) := hR4.b5.cell 6; have d7 : w4.cell? ⟨C, 7, none⟩ = some (.int .u32 m.cert.co) := hR4.b5.cell 7))
    go_ret
    exact ⟨rfl, nxt hR3.bw hb4⟩
  · subst z0 z1 z2
    go_wp2_with (first
      | (refine wpList_row_at rfl _ _ rfl C rfl _ _ _ _ hR3.b5 Tryz.underlying24 rfl crtInfo ?_)
      | (go_at_call 23; refine hC.mono ?_; unfold L11.gives; rintro e w4 ⟨rfl, hb4⟩; have hR4 := hR3.below hb4; have d0 : w4.cell? ⟨C, 0, none⟩ = some (.int .i64 m.cert.kind) := hR4.b5.cell 0; have d4 : w4.cell? ⟨C, 4, none⟩ = some (.int .i64 m.cert.height) := hR4.b5.cell 4; have d6 : w4.cell? ⟨C, 6, none⟩ = some (.int .u32 m.cert.sg) := hR4.b5.cell 6; have d7 : w4.cell? ⟨C, 7, none⟩ = some (.int .u32 m.cert.co) := hR4.b5.cell 7))
    go_ret
    exact ⟨rfl, nxt hR3.bw hb4⟩
  · subst z0 z1 z2 z3
    go_wp2_with (first
      | (refine wpList_row_at rfl _ _ rfl C rfl _ _ _ _ hR3.b5 Tryz.underlying24 rfl crtInfo ?_)
      | (go_at_call 23; refine hC.mono ?_; unfold L11.gives; rintro e w4 ⟨rfl, hb4⟩; have hR4 := hR3.below hb4; have d0 : w4.cell? ⟨C, 0, none⟩ = some (.int .i64 m.cert.kind) := hR4.b5.cell 0; have d4 : w4.cell? ⟨C, 4, none⟩ = some (.int .i64 m.cert.height) := hR4.b5.cell 4; have d6 : w4.cell? ⟨C, 6, none⟩ = some (.int .u32 m.cert.sg) := hR4.b5.cell 6; have d7 : w4.cell? ⟨C, 7, none⟩ = some (.int .u32 m.cert.co) := hR4.b5.cell 7))
    go_ret
    exact ⟨rfl, nxt hR3.bw hb4⟩
  · subst z0 z1 z2 z3
    go_wp2_with (first
      | (refine wpList_row_at rfl _ _ rfl C rfl _ _ _ _ hR3.b5 Tryz.underlying24 rfl crtInfo ?_)
      | (go_at_call 23; refine hC.mono ?_; unfold L11.gives; rintro e w4 ⟨rfl, hb4⟩; have hR4 := hR3.below hb4; have d0 : w4.cell? ⟨C, 0, none⟩ = some (.int .i64 m.cert.kind) := hR4.b5.cell 0; have d4 : w4.cell? ⟨C, 4, none⟩ = some (.int .i64 m.cert.height) := hR4.b5.cell 4; have d6 : w4.cell? ⟨C, 6, none⟩ = some (.int .u32 m.cert.sg) := hR4.b5.cell 6; have d7 : w4.cell? ⟨C, 7, none⟩ = some (.int .u32 m.cert.co) := hR4.b5.cell 7; have hS := HS.out w4 hR4.bw)
      | (refine wpList_row_at rfl _ _ rfl w.heap.size rfl _ _ _ _ hR4.b1 Tryz.underlying34 rfl mesInfoR ?_)
      | (refine wpList_row_at rfl _ _ rfl M rfl _ _ _ _ hR4.b3 Tryz.underlying34 rfl mesInfoR ?_)
      | (go_at_call 12; refine hS.mono ?_; unfold gives; rintro e w9 ⟨rfl, hb9⟩))
    go_ret
    exact ⟨rfl, nxt hR4.bw hb9⟩
end Go.Proofs.YtgmejaiifibfoaaGreatDoor
