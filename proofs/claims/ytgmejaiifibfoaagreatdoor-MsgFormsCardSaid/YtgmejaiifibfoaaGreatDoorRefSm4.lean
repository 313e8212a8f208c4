/-
  Are two messages the same: by the document, where they differ first.
-/
import Derived.Test.YtgmejaiifibfoaaGreatDoorR3
import Derived.Test.YtgmejaiifibfoaaGreatDoorR2
import Derived.Test.YtgmejaiifibfoaaGreatDoorM2
set_option linter.unusedSimpArgs false
set_option linter.unusedVariables false
set_option maxRecDepth 10000
namespace Go.Proofs.YtgmejaiifibfoaaGreatDoor
open Go.RowKit Go.Maps Go.Lib
open L3 (Blk Reads)
open L11 (Crt zeroC crtL crtC mayV okW crtInfo crtC_ones eqlC neqC wpList_binop)

set_option maxHeartbeats 4000000 in
set_option maxRecDepth 100000 in
theorem refSm_9 (a b : Mes) (P Q T P' Q' T' : Value) (w : World) (ha : a.wf) (hb : b.wf) (la : LiesM w a P Q T) (lb : LiesM w b P' Q' T') (hd : ∀ j, j < 9 → diffM a b (refO j) = true) (hn : diffM a b (refO 9) = false) :
    Calls Tryz.prog 12 #[.agg (mesC a P Q T), .agg (mesC b P' Q' T')] w (gives (.bool false) w) := by
  have hA0 := Lib.hid (twoR_mk la lb)
  have q0 : (a.kind != b.kind) = false := ne_d false (show decide (a.kind = b.kind) = true from hd 0 (by omega)) rfl
  have q1 : (a.signer != b.signer) = false := ne_d false (show decide (a.signer = b.signer) = true from hd 1 (by omega)) rfl
  have q2 : (a.view != b.view) = false := ne_d false (show decide (a.view = b.view) = true from hd 2 (by omega)) rfl
  have q3 : (a.n != b.n) = false := ne_d false (show decide (a.n = b.n) = true from hd 3 (by omega)) rfl
  have q4 : ((a.set : Int) != (b.set : Int)) = false := ne_u false (show decide (a.set = b.set) = true from hd 4 (by omega)) rfl
  have HC := Lib.hid (fun W => show (binOp .neq 24 (.agg (crtC a.cert)) (.agg (crtC b.cert))).run Tryz.prog W = .ok (.bool false) W from (by rw [neqC ha.cert hb.cert W, show decide (a.cert = b.cert) = true from hd 5 (by omega)]; rfl))
  have HM := Lib.hid (fun W => show (binOp .neq 26 (.agg (tmC a.tm)) (.agg (tmC b.tm))).run Tryz.prog W = .ok (.bool false) W from (by rw [neqT ha.tm hb.tm W, show decide (a.tm = b.tm) = true from hd 6 (by omega)]; rfl))
  have HX := Lib.hid (fun W => show (binOp .neq 32 (.agg (txC a.tx)) (.agg (txC b.tx))).run Tryz.prog W = .ok (.bool false) W from (by rw [neqX ha.tx hb.tx (by unfold maxLen; omega) W, show decide (a.tx = b.tx) = true from hd 7 (by omega)]; rfl))
  obtain ⟨A, c, rfl, hra, hla⟩ := la
  obtain ⟨A2, c2, rfl, hrb, hlb⟩ := lb
  obtain ⟨B, d, D, e, rfl, rfl, hp1, ht1⟩ := hla
  obtain ⟨B2, d2, D2, e2, rfl, rfl, hp2, ht2⟩ := hlb
  have hS := fun W (h : Below w.heap.size w W) => refsame_any a.block b.block B d D e B2 d2 D2 e2 W ha.block hb.block (hp1.below h) (ht1.below h) (hp2.below h) (ht2.below h)
  rw [show sameV a.block b.block = true from hd 8 (by omega)] at hS
  have HS := Lib.hid hS
  clear hS hp1 ht1 hp2 ht2
  have hP := fun W (h : Below w.heap.size w W) => times_any A c a.proof A2 c2 b.proof W ha.proof hb.proof (hra.below h) (hrb.below h) (by have := ha.np; omega) (by have := hb.np; omega)
  rw [show decide (a.proof = b.proof) = false from hn] at hP
  obtain ⟨na, hna⟩ : ∃ n, n = a.proof.length := ⟨_, rfl⟩
  obtain ⟨nb, hnb⟩ : ∃ n, n = b.proof.length := ⟨_, rfl⟩
  rw [← hna] at hP hA0 ⊢
  rw [← hnb] at hP hA0 ⊢
  have HP := Lib.hid hP
  clear hP
  clear hna hnb hra hrb ha hb hd hn
  obtain ⟨V1, hV1⟩ : ∃ V, V = (Value.slice B a.block.proof.length d) := ⟨_, rfl⟩
  obtain ⟨V2, hV2⟩ : ∃ V, V = (Value.slice D a.block.txs.length e) := ⟨_, rfl⟩
  obtain ⟨V3, hV3⟩ : ∃ V, V = (Value.slice B2 b.block.proof.length d2) := ⟨_, rfl⟩
  obtain ⟨V4, hV4⟩ : ∃ V, V = (Value.slice D2 b.block.txs.length e2) := ⟨_, rfl⟩
  rw [← hV1, ← hV2, ← hV3, ← hV4] at HS hA0
  rw [← hV1, ← hV2, ← hV3, ← hV4]
  clear hV1 hV2 hV3 hV4
  go_enter Tryz.func12, Tryz.ntmps12
  go_upto_region 1 with fail
  refine name_world (fun W0 hW0 => ?_)
  have hA : TwoR w a b (.slice A na c) V1 V2 (.slice A2 nb c2) V3 V4 W0 := by rw [hW0]; exact hA0.out
  clear hW0 hA0
  obtain ⟨x0, x1, x2, x3, x4, x23⟩ := mes_ints hA.ba
  obtain ⟨y0, y1, y2, y3, y4, y23⟩ := mes_ints hA.bb
  have pc1 := mes_crt hA.ba
  have pc2 := mes_crt hA.bb
  have pt1 := mes_tmo hA.ba
  have pt2 := mes_tmo hA.bb
  have px1 := mes_tx hA.ba
  have px2 := mes_tx hA.bb
  have pb1 := mes_blo hA.ba
  have pb2 := mes_blo hA.bb
  have hS0 := HS.out W0 hA.bw
  go_wp2_with (first
    | (refine wpList_cells_at rfl _ _ rfl ⟨w.heap.size, 5, none⟩ rfl (crtL a.cert) _ pc1 Tryz.underlying24 rfl crtInfo ?_)
    | (refine wpList_cells_at rfl _ _ rfl ⟨w.heap.size + 1, 5, none⟩ rfl (crtL b.cert) _ pc2 Tryz.underlying24 rfl crtInfo ?_)
    | (refine wpList_binop rfl _ _ _ _ _ rfl (crtC a.cert) (crtC b.cert) rfl rfl (by kernel_rfl) (HC.out _) ?_)
    | (refine wpList_cells_at rfl _ _ rfl ⟨w.heap.size, 13, none⟩ rfl (tmL a.tm) _ pt1 Tryz.underlying26 rfl (tmInfoL _) ?_)
    | (refine wpList_cells_at rfl _ _ rfl ⟨w.heap.size + 1, 13, none⟩ rfl (tmL b.tm) _ pt2 Tryz.underlying26 rfl (tmInfoL _) ?_)
    | (refine wpList_binop rfl _ _ _ _ _ rfl (tmC a.tm) (tmC b.tm) rfl rfl (by kernel_rfl) (HM.out _) ?_)
    | (refine wpList_cells_at rfl _ _ rfl ⟨w.heap.size, 38, none⟩ rfl (txL a.tx) _ px1 Tryz.underlying32 rfl (txInfoL _) ?_)
    | (refine wpList_cells_at rfl _ _ rfl ⟨w.heap.size + 1, 38, none⟩ rfl (txL b.tx) _ px2 Tryz.underlying32 rfl (txInfoL _) ?_)
    | (refine wpList_binop rfl _ _ _ _ _ rfl (txC a.tx) (txC b.tx) rfl rfl (by kernel_rfl) (HX.out _) ?_)
    | (refine wpList_cells_at rfl _ _ rfl ⟨w.heap.size, 24, none⟩ rfl (bloL a.block V1 V2) _ pb1 Tryz.underlying30 rfl (bloInfoL _ _ _) ?_)
    | (refine wpList_cells_at rfl _ _ rfl ⟨w.heap.size + 1, 24, none⟩ rfl (bloL b.block V3 V4) _ pb2 Tryz.underlying30 rfl (bloInfoL _ _ _) ?_)
    | (go_at_call 35; refine hS0.mono ?_; unfold gives; rintro e w1 ⟨rfl, hb1⟩; have hA1 := hA.below hb1; have u23 := (mes_ints hA1.ba).2.2.2.2.2; have v23 := (mes_ints hA1.bb).2.2.2.2.2; have hP1 := HP.out w1 hA1.bw)
    | (go_at_call 36; refine hP1.mono ?_; unfold gives; rintro e w2 ⟨rfl, hb2⟩))
  go_ret
  exact ⟨rfl, nxt hA1.bw hb2⟩
set_option maxHeartbeats 4000000 in
set_option maxRecDepth 100000 in
theorem refSm_10 (a b : Mes) (P Q T P' Q' T' : Value) (w : World) (ha : a.wf) (hb : b.wf) (la : LiesM w a P Q T) (lb : LiesM w b P' Q' T') (hd : ∀ j, j < 10 → diffM a b (refO j) = true) :
    Calls Tryz.prog 12 #[.agg (mesC a P Q T), .agg (mesC b P' Q' T')] w (gives (.bool true) w) := by
  have hA0 := Lib.hid (twoR_mk la lb)
  have q0 : (a.kind != b.kind) = false := ne_d false (show decide (a.kind = b.kind) = true from hd 0 (by omega)) rfl
  have q1 : (a.signer != b.signer) = false := ne_d false (show decide (a.signer = b.signer) = true from hd 1 (by omega)) rfl
  have q2 : (a.view != b.view) = false := ne_d false (show decide (a.view = b.view) = true from hd 2 (by omega)) rfl
  have q3 : (a.n != b.n) = false := ne_d false (show decide (a.n = b.n) = true from hd 3 (by omega)) rfl
  have q4 : ((a.set : Int) != (b.set : Int)) = false := ne_u false (show decide (a.set = b.set) = true from hd 4 (by omega)) rfl
  have HC := Lib.hid (fun W => show (binOp .neq 24 (.agg (crtC a.cert)) (.agg (crtC b.cert))).run Tryz.prog W = .ok (.bool false) W from (by rw [neqC ha.cert hb.cert W, show decide (a.cert = b.cert) = true from hd 5 (by omega)]; rfl))
  have HM := Lib.hid (fun W => show (binOp .neq 26 (.agg (tmC a.tm)) (.agg (tmC b.tm))).run Tryz.prog W = .ok (.bool false) W from (by rw [neqT ha.tm hb.tm W, show decide (a.tm = b.tm) = true from hd 6 (by omega)]; rfl))
  have HX := Lib.hid (fun W => show (binOp .neq 32 (.agg (txC a.tx)) (.agg (txC b.tx))).run Tryz.prog W = .ok (.bool false) W from (by rw [neqX ha.tx hb.tx (by unfold maxLen; omega) W, show decide (a.tx = b.tx) = true from hd 7 (by omega)]; rfl))
  obtain ⟨A, c, rfl, hra, hla⟩ := la
  obtain ⟨A2, c2, rfl, hrb, hlb⟩ := lb
  obtain ⟨B, d, D, e, rfl, rfl, hp1, ht1⟩ := hla
  obtain ⟨B2, d2, D2, e2, rfl, rfl, hp2, ht2⟩ := hlb
  have hS := fun W (h : Below w.heap.size w W) => refsame_any a.block b.block B d D e B2 d2 D2 e2 W ha.block hb.block (hp1.below h) (ht1.below h) (hp2.below h) (ht2.below h)
  rw [show sameV a.block b.block = true from hd 8 (by omega)] at hS
  have HS := Lib.hid hS
  clear hS hp1 ht1 hp2 ht2
  have hP := fun W (h : Below w.heap.size w W) => times_any A c a.proof A2 c2 b.proof W ha.proof hb.proof (hra.below h) (hrb.below h) (by have := ha.np; omega) (by have := hb.np; omega)
  rw [show decide (a.proof = b.proof) = true from hd 9 (by omega)] at hP
  obtain ⟨na, hna⟩ : ∃ n, n = a.proof.length := ⟨_, rfl⟩
  obtain ⟨nb, hnb⟩ : ∃ n, n = b.proof.length := ⟨_, rfl⟩
  rw [← hna] at hP hA0 ⊢
  rw [← hnb] at hP hA0 ⊢
  have HP := Lib.hid hP
  clear hP
  clear hna hnb hra hrb ha hb hd
  obtain ⟨V1, hV1⟩ : ∃ V, V = (Value.slice B a.block.proof.length d) := ⟨_, rfl⟩
  obtain ⟨V2, hV2⟩ : ∃ V, V = (Value.slice D a.block.txs.length e) := ⟨_, rfl⟩
  obtain ⟨V3, hV3⟩ : ∃ V, V = (Value.slice B2 b.block.proof.length d2) := ⟨_, rfl⟩
  obtain ⟨V4, hV4⟩ : ∃ V, V = (Value.slice D2 b.block.txs.length e2) := ⟨_, rfl⟩
  rw [← hV1, ← hV2, ← hV3, ← hV4] at HS hA0
  rw [← hV1, ← hV2, ← hV3, ← hV4]
  clear hV1 hV2 hV3 hV4
  go_enter Tryz.func12, Tryz.ntmps12
  go_upto_region 1 with fail
  refine name_world (fun W0 hW0 => ?_)
  have hA : TwoR w a b (.slice A na c) V1 V2 (.slice A2 nb c2) V3 V4 W0 := by rw [hW0]; exact hA0.out
  clear hW0 hA0
  obtain ⟨x0, x1, x2, x3, x4, x23⟩ := mes_ints hA.ba
  obtain ⟨y0, y1, y2, y3, y4, y23⟩ := mes_ints hA.bb
  have pc1 := mes_crt hA.ba
  have pc2 := mes_crt hA.bb
  have pt1 := mes_tmo hA.ba
  have pt2 := mes_tmo hA.bb
  have px1 := mes_tx hA.ba
  have px2 := mes_tx hA.bb
  have pb1 := mes_blo hA.ba
  have pb2 := mes_blo hA.bb
  have hS0 := HS.out W0 hA.bw
  go_wp2_with (first
    | (refine wpList_cells_at rfl _ _ rfl ⟨w.heap.size, 5, none⟩ rfl (crtL a.cert) _ pc1 Tryz.underlying24 rfl crtInfo ?_)
    | (refine wpList_cells_at rfl _ _ rfl ⟨w.heap.size + 1, 5, none⟩ rfl (crtL b.cert) _ pc2 Tryz.underlying24 rfl crtInfo ?_)
    | (refine wpList_binop rfl _ _ _ _ _ rfl (crtC a.cert) (crtC b.cert) rfl rfl (by kernel_rfl) (HC.out _) ?_)
    | (refine wpList_cells_at rfl _ _ rfl ⟨w.heap.size, 13, none⟩ rfl (tmL a.tm) _ pt1 Tryz.underlying26 rfl (tmInfoL _) ?_)
    | (refine wpList_cells_at rfl _ _ rfl ⟨w.heap.size + 1, 13, none⟩ rfl (tmL b.tm) _ pt2 Tryz.underlying26 rfl (tmInfoL _) ?_)
    | (refine wpList_binop rfl _ _ _ _ _ rfl (tmC a.tm) (tmC b.tm) rfl rfl (by kernel_rfl) (HM.out _) ?_)
    | (refine wpList_cells_at rfl _ _ rfl ⟨w.heap.size, 38, none⟩ rfl (txL a.tx) _ px1 Tryz.underlying32 rfl (txInfoL _) ?_)
    | (refine wpList_cells_at rfl _ _ rfl ⟨w.heap.size + 1, 38, none⟩ rfl (txL b.tx) _ px2 Tryz.underlying32 rfl (txInfoL _) ?_)
    | (refine wpList_binop rfl _ _ _ _ _ rfl (txC a.tx) (txC b.tx) rfl rfl (by kernel_rfl) (HX.out _) ?_)
    | (refine wpList_cells_at rfl _ _ rfl ⟨w.heap.size, 24, none⟩ rfl (bloL a.block V1 V2) _ pb1 Tryz.underlying30 rfl (bloInfoL _ _ _) ?_)
    | (refine wpList_cells_at rfl _ _ rfl ⟨w.heap.size + 1, 24, none⟩ rfl (bloL b.block V3 V4) _ pb2 Tryz.underlying30 rfl (bloInfoL _ _ _) ?_)
    | (go_at_call 35; refine hS0.mono ?_; unfold gives; rintro e w1 ⟨rfl, hb1⟩; have hA1 := hA.below hb1; have u23 := (mes_ints hA1.ba).2.2.2.2.2; have v23 := (mes_ints hA1.bb).2.2.2.2.2; have hP1 := HP.out w1 hA1.bw)
    | (go_at_call 36; refine hP1.mono ?_; unfold gives; rintro e w2 ⟨rfl, hb2⟩))
  go_ret
  exact ⟨rfl, nxt hA1.bw hb2⟩
end Go.Proofs.YtgmejaiifibfoaaGreatDoor
