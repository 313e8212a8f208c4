/-
  Are two messages the same: by the document, where they differ first.
-/
import Derived.Test.YtgmejaiifibfoaaGreatDoorR3
import Derived.Test.YtgmejaiifibfoaaGreatDoorM2
set_option linter.unusedSimpArgs false
set_option linter.unusedVariables false
set_option maxRecDepth 10000
namespace Go.Proofs.YtgmejaiifibfoaaGreatDoor
open Go.RowKit Go.Maps Go.Lib
open L3 (Blk Reads)
open L11 (Crt zeroC crtL crtC mayV okW crtInfo crtC_ones eqlC neqC wpList_binop)

set_option maxHeartbeats 4000000 in
set_option maxRecDepth 100000 in
theorem refSm_5 (a b : Mes) (P Q T P' Q' T' : Value) (w : World) (ha : a.wf) (hb : b.wf) (la : LiesM w a P Q T) (lb : LiesM w b P' Q' T') (hd : ∀ j, j < 5 → diffM a b (refO j) = true) (hn : diffM a b (refO 5) = false) :
    Calls Tryz.prog 12 #[.agg (mesC a P Q T), .agg (mesC b P' Q' T')] w (gives (.bool false) w) := by
  have hA0 := Lib.hid (twoR_mk la lb)
  have q0 : (a.kind != b.kind) = false := ne_d false (show decide (a.kind = b.kind) = true from hd 0 (by omega)) rfl
  have q1 : (a.signer != b.signer) = false := ne_d false (show decide (a.signer = b.signer) = true from hd 1 (by omega)) rfl
  have q2 : (a.view != b.view) = false := ne_d false (show decide (a.view = b.view) = true from hd 2 (by omega)) rfl
  have q3 : (a.n != b.n) = false := ne_d false (show decide (a.n = b.n) = true from hd 3 (by omega)) rfl
  have q4 : ((a.set : Int) != (b.set : Int)) = false := ne_u false (show decide (a.set = b.set) = true from hd 4 (by omega)) rfl
  have HC := Lib.hid (fun W => show (binOp .neq 24 (.agg (crtC a.cert)) (.agg (crtC b.cert))).run Tryz.prog W = .ok (.bool true) W from (by rw [neqC ha.cert hb.cert W, show decide (a.cert = b.cert) = false from hn]; rfl))
  obtain ⟨A, c, rfl, hra, hla⟩ := la
  obtain ⟨A2, c2, rfl, hrb, hlb⟩ := lb
  obtain ⟨na, hna⟩ : ∃ n, n = a.proof.length := ⟨_, rfl⟩
  obtain ⟨nb, hnb⟩ : ∃ n, n = b.proof.length := ⟨_, rfl⟩
  rw [← hna] at hA0 ⊢
  rw [← hnb] at hA0 ⊢
  clear hna hnb hra hrb hla hlb ha hb hd hn
  go_enter Tryz.func12, Tryz.ntmps12
  go_upto_region 1 with fail
  refine name_world (fun W0 hW0 => ?_)
  have hA : TwoR w a b (.slice A na c) Q T (.slice A2 nb c2) Q' T' W0 := by rw [hW0]; exact hA0.out
  clear hW0 hA0
  obtain ⟨x0, x1, x2, x3, x4, x23⟩ := mes_ints hA.ba
  obtain ⟨y0, y1, y2, y3, y4, y23⟩ := mes_ints hA.bb
  have pc1 := mes_crt hA.ba
  have pc2 := mes_crt hA.bb
  go_wp2_with (first
    | (refine wpList_cells_at rfl _ _ rfl ⟨w.heap.size, 5, none⟩ rfl (crtL a.cert) _ pc1 Tryz.underlying24 rfl crtInfo ?_)
    | (refine wpList_cells_at rfl _ _ rfl ⟨w.heap.size + 1, 5, none⟩ rfl (crtL b.cert) _ pc2 Tryz.underlying24 rfl crtInfo ?_)
    | (refine wpList_binop rfl _ _ _ _ _ rfl (crtC a.cert) (crtC b.cert) rfl rfl (by kernel_rfl) (HC.out _) ?_))
  go_ret
  exact ⟨rfl, hA.bw⟩
set_option maxHeartbeats 4000000 in
set_option maxRecDepth 100000 in
theorem refSm_6 (a b : Mes) (P Q T P' Q' T' : Value) (w : World) (ha : a.wf) (hb : b.wf) (la : LiesM w a P Q T) (lb : LiesM w b P' Q' T') (hd : ∀ j, j < 6 → diffM a b (refO j) = true) (hn : diffM a b (refO 6) = false) :
    Calls Tryz.prog 12 #[.agg (mesC a P Q T), .agg (mesC b P' Q' T')] w (gives (.bool false) w) := by
  have hA0 := Lib.hid (twoR_mk la lb)
  have q0 : (a.kind != b.kind) = false := ne_d false (show decide (a.kind = b.kind) = true from hd 0 (by omega)) rfl
  have q1 : (a.signer != b.signer) = false := ne_d false (show decide (a.signer = b.signer) = true from hd 1 (by omega)) rfl
  have q2 : (a.view != b.view) = false := ne_d false (show decide (a.view = b.view) = true from hd 2 (by omega)) rfl
  have q3 : (a.n != b.n) = false := ne_d false (show decide (a.n = b.n) = true from hd 3 (by omega)) rfl
  have q4 : ((a.set : Int) != (b.set : Int)) = false := ne_u false (show decide (a.set = b.set) = true from hd 4 (by omega)) rfl
  have HC := Lib.hid (fun W => show (binOp .neq 24 (.agg (crtC a.cert)) (.agg (crtC b.cert))).run Tryz.prog W = .ok (.bool false) W from (by rw [neqC ha.cert hb.cert W, show decide (a.cert = b.cert) = true from hd 5 (by omega)]; rfl))
  have HM := Lib.hid (fun W => show (binOp .neq 26 (.agg (tmC a.tm)) (.agg (tmC b.tm))).run Tryz.prog W = .ok (.bool true) W from (by rw [neqT ha.tm hb.tm W, show decide (a.tm = b.tm) = false from hn]; rfl))
  obtain ⟨A, c, rfl, hra, hla⟩ := la
  obtain ⟨A2, c2, rfl, hrb, hlb⟩ := lb
  obtain ⟨na, hna⟩ : ∃ n, n = a.proof.length := ⟨_, rfl⟩
  obtain ⟨nb, hnb⟩ : ∃ n, n = b.proof.length := ⟨_, rfl⟩
  rw [← hna] at hA0 ⊢
  rw [← hnb] at hA0 ⊢
  clear hna hnb hra hrb hla hlb ha hb hd hn
  go_enter Tryz.func12, Tryz.ntmps12
  go_upto_region 1 with fail
  refine name_world (fun W0 hW0 => ?_)
  have hA : TwoR w a b (.slice A na c) Q T (.slice A2 nb c2) Q' T' W0 := by rw [hW0]; exact hA0.out
  clear hW0 hA0
  obtain ⟨x0, x1, x2, x3, x4, x23⟩ := mes_ints hA.ba
  obtain ⟨y0, y1, y2, y3, y4, y23⟩ := mes_ints hA.bb
  have pc1 := mes_crt hA.ba
  have pc2 := mes_crt hA.bb
  have pt1 := mes_tmo hA.ba
  have pt2 := mes_tmo hA.bb
  go_wp2_with (first
    | (refine wpList_cells_at rfl _ _ rfl ⟨w.heap.size, 5, none⟩ rfl (crtL a.cert) _ pc1 Tryz.underlying24 rfl crtInfo ?_)
    | (refine wpList_cells_at rfl _ _ rfl ⟨w.heap.size + 1, 5, none⟩ rfl (crtL b.cert) _ pc2 Tryz.underlying24 rfl crtInfo ?_)
    | (refine wpList_binop rfl _ _ _ _ _ rfl (crtC a.cert) (crtC b.cert) rfl rfl (by kernel_rfl) (HC.out _) ?_)
    | (refine wpList_cells_at rfl _ _ rfl ⟨w.heap.size, 13, none⟩ rfl (tmL a.tm) _ pt1 Tryz.underlying26 rfl (tmInfoL _) ?_)
    | (refine wpList_cells_at rfl _ _ rfl ⟨w.heap.size + 1, 13, none⟩ rfl (tmL b.tm) _ pt2 Tryz.underlying26 rfl (tmInfoL _) ?_)
    | (refine wpList_binop rfl _ _ _ _ _ rfl (tmC a.tm) (tmC b.tm) rfl rfl (by kernel_rfl) (HM.out _) ?_))
  go_ret
  exact ⟨rfl, hA.bw⟩
end Go.Proofs.YtgmejaiifibfoaaGreatDoor
