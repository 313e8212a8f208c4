/-
  Are two messages the same: by the code, where they differ first.
-/
import Derived.Test.YtgmejaiifibfoaaGreatDoorTwoM
set_option linter.unusedSimpArgs false
set_option linter.unusedVariables false
set_option maxRecDepth 10000
namespace Go.Proofs.YtgmejaiifibfoaaGreatDoor
open Go.RowKit Go.Maps Go.Lib
open L3 (Blk Reads)
open L11 (Crt zeroC crtL crtC mayV okW crtInfo crtC_ones eqlC neqC wpList_binop)

set_option maxHeartbeats 4000000 in
set_option maxRecDepth 100000 in
theorem sameM_5 (a b : Mes) (P Q T P' Q' T' : Value) (w : World) (ha : a.wf) (hb : b.wf) (la : LiesM w a P Q T) (lb : LiesM w b P' Q' T') (hd : ∀ j, j < 5 → diffM a b j = true) (hn : diffM a b 5 = false) :
    Calls Tryz.prog 11 #[.agg (mesC a P Q T), .agg (mesC b P' Q' T')] w (gives (.bool false) w) := by
  have hA := twoM_mk la lb
  obtain ⟨q0, _⟩ := beq_d (x := a.kind) (y := b.kind) (show decide (a.kind = b.kind) = true from hd 0 (by omega))
  obtain ⟨q1, _⟩ := beq_d (x := a.signer) (y := b.signer) (show decide (a.signer = b.signer) = true from hd 1 (by omega))
  obtain ⟨q2, _⟩ := beq_d (x := a.view) (y := b.view) (show decide (a.view = b.view) = true from hd 2 (by omega))
  obtain ⟨q3, _⟩ := beq_d (x := a.n) (y := b.n) (show decide (a.n = b.n) = true from hd 3 (by omega))
  obtain ⟨q4, _⟩ := beq_u (x := a.set) (y := b.set) (show decide (a.set = b.set) = true from hd 4 (by omega))
  have hC := fun W => eqlC ha.cert hb.cert W
  rw [show decide (a.cert = b.cert) = false from hn] at hC
  have HC := Lib.hid hC
  clear hC
  obtain ⟨A, c, rfl, hra, hla⟩ := la
  obtain ⟨A2, c2, rfl, hrb, hlb⟩ := lb
  obtain ⟨na, hna⟩ : ∃ n, n = a.proof.length := ⟨_, rfl⟩
  obtain ⟨nb, hnb⟩ : ∃ n, n = b.proof.length := ⟨_, rfl⟩
  rw [← hna] at hA ⊢
  rw [← hnb] at hA ⊢
  clear hna hnb
  clear hra hrb hla hlb ha hb hd hn
  obtain ⟨W0, hW0⟩ : ∃ W0, W0 = (w.alloc (.cells (mesC a (.slice A na c) Q T) 39)).alloc (.cells (mesC b (.slice A2 nb c2) Q' T') 39) := ⟨_, rfl⟩
  have HW0 := hW0.symm
  rw [← hW0] at hA
  clear hW0
  obtain ⟨x0, x1, x2, x3, x4, x23⟩ := mes_ints hA.ba
  obtain ⟨y0, y1, y2, y3, y4, y23⟩ := mes_ints hA.bb
  have pc1 := mes_crt hA.ba
  have pc2 := mes_crt hA.bb
  go_enter Tryz.func11, Tryz.ntmps11
  go_wp2_with (first
    | (refine wpList_cells_at rfl _ _ rfl ⟨w.heap.size, 5, none⟩ rfl (crtL a.cert) _ pc1 Tryz.underlying24 rfl crtInfo ?_)
    | (refine wpList_cells_at rfl _ _ rfl ⟨w.heap.size + 1, 5, none⟩ rfl (crtL b.cert) _ pc2 Tryz.underlying24 rfl crtInfo ?_)
    | (refine wpList_binop rfl _ _ _ _ _ rfl (crtC a.cert) (crtC b.cert) rfl rfl (by kernel_rfl) (HC.out _) ?_))
  go_ret
  exact ⟨rfl, hA.bw⟩
set_option maxHeartbeats 4000000 in
set_option maxRecDepth 100000 in
theorem sameM_6 (a b : Mes) (P Q T P' Q' T' : Value) (w : World) (ha : a.wf) (hb : b.wf) (la : LiesM w a P Q T) (lb : LiesM w b P' Q' T') (hd : ∀ j, j < 6 → diffM a b j = true) (hn : diffM a b 6 = false) :
    Calls Tryz.prog 11 #[.agg (mesC a P Q T), .agg (mesC b P' Q' T')] w (gives (.bool false) w) := by
  have hA := twoM_mk la lb
  obtain ⟨q0, _⟩ := beq_d (x := a.kind) (y := b.kind) (show decide (a.kind = b.kind) = true from hd 0 (by omega))
  obtain ⟨q1, _⟩ := beq_d (x := a.signer) (y := b.signer) (show decide (a.signer = b.signer) = true from hd 1 (by omega))
  obtain ⟨q2, _⟩ := beq_d (x := a.view) (y := b.view) (show decide (a.view = b.view) = true from hd 2 (by omega))
  obtain ⟨q3, _⟩ := beq_d (x := a.n) (y := b.n) (show decide (a.n = b.n) = true from hd 3 (by omega))
  obtain ⟨q4, _⟩ := beq_u (x := a.set) (y := b.set) (show decide (a.set = b.set) = true from hd 4 (by omega))
  have hC := fun W => eqlC ha.cert hb.cert W
  rw [show decide (a.cert = b.cert) = true from hd 5 (by omega)] at hC
  have HC := Lib.hid hC
  clear hC
  have hM := fun W => eqlT ha.tm hb.tm W
  rw [show decide (a.tm = b.tm) = false from hn] at hM
  have HM := Lib.hid hM
  clear hM
  obtain ⟨A, c, rfl, hra, hla⟩ := la
  obtain ⟨A2, c2, rfl, hrb, hlb⟩ := lb
  obtain ⟨na, hna⟩ : ∃ n, n = a.proof.length := ⟨_, rfl⟩
  obtain ⟨nb, hnb⟩ : ∃ n, n = b.proof.length := ⟨_, rfl⟩
  rw [← hna] at hA ⊢
  rw [← hnb] at hA ⊢
  clear hna hnb
  clear hra hrb hla hlb ha hb hd hn
  obtain ⟨W0, hW0⟩ : ∃ W0, W0 = (w.alloc (.cells (mesC a (.slice A na c) Q T) 39)).alloc (.cells (mesC b (.slice A2 nb c2) Q' T') 39) := ⟨_, rfl⟩
  have HW0 := hW0.symm
  rw [← hW0] at hA
  clear hW0
  obtain ⟨x0, x1, x2, x3, x4, x23⟩ := mes_ints hA.ba
  obtain ⟨y0, y1, y2, y3, y4, y23⟩ := mes_ints hA.bb
  have pc1 := mes_crt hA.ba
  have pc2 := mes_crt hA.bb
  have pt1 := mes_tmo hA.ba
  have pt2 := mes_tmo hA.bb
  go_enter Tryz.func11, Tryz.ntmps11
  go_wp2_with (first
    | (refine wpList_cells_at rfl _ _ rfl ⟨w.heap.size, 5, none⟩ rfl (crtL a.cert) _ pc1 Tryz.underlying24 rfl crtInfo ?_)
    | (refine wpList_cells_at rfl _ _ rfl ⟨w.heap.size + 1, 5, none⟩ rfl (crtL b.cert) _ pc2 Tryz.underlying24 rfl crtInfo ?_)
    | (refine wpList_binop rfl _ _ _ _ _ rfl (crtC a.cert) (crtC b.cert) rfl rfl (by kernel_rfl) (HC.out _) ?_)
    | (refine wpList_cells_at rfl _ _ rfl ⟨w.heap.size, 13, none⟩ rfl (tmL a.tm) _ pt1 Tryz.underlying26 rfl (tmInfoL _) ?_)
    | (refine wpList_cells_at rfl _ _ rfl ⟨w.heap.size + 1, 13, none⟩ rfl (tmL b.tm) _ pt2 Tryz.underlying26 rfl (tmInfoL _) ?_)
    | (refine wpList_binop rfl _ _ _ _ _ rfl (tmC a.tm) (tmC b.tm) rfl rfl (by kernel_rfl) (HM.out _) ?_))
  go_ret
  exact ⟨rfl, hA.bw⟩
set_option maxHeartbeats 4000000 in
set_option maxRecDepth 100000 in
theorem sameM_7 (a b : Mes) (P Q T P' Q' T' : Value) (w : World) (ha : a.wf) (hb : b.wf) (la : LiesM w a P Q T) (lb : LiesM w b P' Q' T') (hd : ∀ j, j < 7 → diffM a b j = true) (hn : diffM a b 7 = false) :
    Calls Tryz.prog 11 #[.agg (mesC a P Q T), .agg (mesC b P' Q' T')] w (gives (.bool false) w) := by
  have hA := twoM_mk la lb
  obtain ⟨q0, _⟩ := beq_d (x := a.kind) (y := b.kind) (show decide (a.kind = b.kind) = true from hd 0 (by omega))
  obtain ⟨q1, _⟩ := beq_d (x := a.signer) (y := b.signer) (show decide (a.signer = b.signer) = true from hd 1 (by omega))
  obtain ⟨q2, _⟩ := beq_d (x := a.view) (y := b.view) (show decide (a.view = b.view) = true from hd 2 (by omega))
  obtain ⟨q3, _⟩ := beq_d (x := a.n) (y := b.n) (show decide (a.n = b.n) = true from hd 3 (by omega))
  obtain ⟨q4, _⟩ := beq_u (x := a.set) (y := b.set) (show decide (a.set = b.set) = true from hd 4 (by omega))
  have hC := fun W => eqlC ha.cert hb.cert W
  rw [show decide (a.cert = b.cert) = true from hd 5 (by omega)] at hC
  have HC := Lib.hid hC
  clear hC
  have hM := fun W => eqlT ha.tm hb.tm W
  rw [show decide (a.tm = b.tm) = true from hd 6 (by omega)] at hM
  have HM := Lib.hid hM
  clear hM
  obtain ⟨A, c, rfl, hra, hla⟩ := la
  obtain ⟨A2, c2, rfl, hrb, hlb⟩ := lb
  have hP := fun W (h : Below w.heap.size w W) => eqTms_is A c a.proof A2 c2 b.proof false W ha.proof hb.proof (hra.below h) (hrb.below h) (by have := ha.np; omega) (by have := hb.np; omega) (hn)
  obtain ⟨na, hna⟩ : ∃ n, n = a.proof.length := ⟨_, rfl⟩
  obtain ⟨nb, hnb⟩ : ∃ n, n = b.proof.length := ⟨_, rfl⟩
  rw [← hna] at hP hA ⊢
  rw [← hnb] at hP hA ⊢
  have HP := Lib.hid hP
  clear hP hna hnb
  clear hra hrb hla hlb ha hb hd hn
  obtain ⟨W0, hW0⟩ : ∃ W0, W0 = (w.alloc (.cells (mesC a (.slice A na c) Q T) 39)).alloc (.cells (mesC b (.slice A2 nb c2) Q' T') 39) := ⟨_, rfl⟩
  have HW0 := hW0.symm
  rw [← hW0] at hA
  clear hW0
  obtain ⟨x0, x1, x2, x3, x4, x23⟩ := mes_ints hA.ba
  obtain ⟨y0, y1, y2, y3, y4, y23⟩ := mes_ints hA.bb
  have pc1 := mes_crt hA.ba
  have pc2 := mes_crt hA.bb
  have pt1 := mes_tmo hA.ba
  have pt2 := mes_tmo hA.bb
  have hP0 := HP.out W0 hA.bw
  go_enter Tryz.func11, Tryz.ntmps11
  go_wp2_with (first
    | (refine wpList_cells_at rfl _ _ rfl ⟨w.heap.size, 5, none⟩ rfl (crtL a.cert) _ pc1 Tryz.underlying24 rfl crtInfo ?_)
    | (refine wpList_cells_at rfl _ _ rfl ⟨w.heap.size + 1, 5, none⟩ rfl (crtL b.cert) _ pc2 Tryz.underlying24 rfl crtInfo ?_)
    | (refine wpList_binop rfl _ _ _ _ _ rfl (crtC a.cert) (crtC b.cert) rfl rfl (by kernel_rfl) (HC.out _) ?_)
    | (refine wpList_cells_at rfl _ _ rfl ⟨w.heap.size, 13, none⟩ rfl (tmL a.tm) _ pt1 Tryz.underlying26 rfl (tmInfoL _) ?_)
    | (refine wpList_cells_at rfl _ _ rfl ⟨w.heap.size + 1, 13, none⟩ rfl (tmL b.tm) _ pt2 Tryz.underlying26 rfl (tmInfoL _) ?_)
    | (refine wpList_binop rfl _ _ _ _ _ rfl (tmC a.tm) (tmC b.tm) rfl rfl (by kernel_rfl) (HM.out _) ?_)
    | (go_at_call 33; refine hP0.mono ?_; unfold gives; rintro e w1 ⟨rfl, hb1⟩))
  go_ret
  exact ⟨rfl, nxt hA.bw hb1⟩
end Go.Proofs.YtgmejaiifibfoaaGreatDoor
