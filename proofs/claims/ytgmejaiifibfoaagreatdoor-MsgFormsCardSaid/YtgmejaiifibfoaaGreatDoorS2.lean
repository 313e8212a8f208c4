/-
  Texts of one layer in one: SameM3, SameM.
-/
import Derived.Test.YtgmejaiifibfoaaGreatDoorTwoM
import Derived.Test.YtgmejaiifibfoaaGreatDoorS1
import Derived.Test.YtgmejaiifibfoaaGreatDoorSameM2

/-
  Are two messages the same: by the code, where they differ first.
-/
set_option linter.unusedSimpArgs false
set_option linter.unusedVariables false
set_option maxRecDepth 10000
namespace Go.Proofs.YtgmejaiifibfoaaGreatDoor
open Go.RowKit Go.Maps Go.Lib
open L3 (Blk Reads)
open L11 (Crt zeroC crtL crtC mayV okW crtInfo crtC_ones eqlC neqC wpList_binop)

set_option maxHeartbeats 4000000 in
set_option maxRecDepth 100000 in
theorem sameM_8 (a b : Mes) (P Q T P' Q' T' : Value) (w : World) (ha : a.wf) (hb : b.wf) (la : LiesM w a P Q T) (lb : LiesM w b P' Q' T') (hd : ∀ j, j < 8 → diffM a b j = true) (hn : diffM a b 8 = false) :
    Calls Tryz.prog 11 #[.agg (mesC a P Q T), .agg (mesC b P' Q' T')] w (gives (.bool false) w) := by
  have hA := twoM_mk la lb
  obtain ⟨q0, _⟩ := beq_d (x := a.kind) (y := b.kind) (show decide (a.kind = b.kind) = true from hd 0 (by omega))
  obtain ⟨q1, _⟩ := beq_d (x := a.signer) (y := b.signer) (show decide (a.signer = b.signer) = true from hd 1 (by omega))
  obtain ⟨q2, _⟩ := beq_d (x := a.view) (y := b.view) (show decide (a.view = b.view) = true from hd 2 (by omega))
  obtain ⟨q3, _⟩ := beq_d (x := a.n) (y := b.n) (show decide (a.n = b.n) = true from hd 3 (by omega))
  obtain ⟨q4, _⟩ := beq_u (x := a.set) (y := b.set) (show decide (a.set = b.set) = true from hd 4 (by omega))
  have hC := fun W => eqlC ha.cert hb.cert W
  rw [show decide (a.cert = b.cert) = true from hd 5 (by omega)] at hC
  have HC := Lib.hid hC
  clear hC
  have hM := fun W => eqlT ha.tm hb.tm W
  rw [show decide (a.tm = b.tm) = true from hd 6 (by omega)] at hM
  have HM := Lib.hid hM
  clear hM
  obtain ⟨A, c, rfl, hra, hla⟩ := la
  obtain ⟨A2, c2, rfl, hrb, hlb⟩ := lb
  have hP := fun W (h : Below w.heap.size w W) => eqTms_is A c a.proof A2 c2 b.proof true W ha.proof hb.proof (hra.below h) (hrb.below h) (by have := ha.np; omega) (by have := hb.np; omega) (hd 7 (by omega))
  obtain ⟨B, d, D, e, rfl, rfl, hp1, ht1⟩ := hla
  obtain ⟨B2, d2, D2, e2, rfl, rfl, hp2, ht2⟩ := hlb
  have hS := fun W (h : Below w.heap.size w W) => sameB_any a.block b.block B d D e B2 d2 D2 e2 W ha.block hb.block (hp1.below h) (ht1.below h) (hp2.below h) (ht2.below h)
  rw [show sameV a.block b.block = false from hn] at hS
  have HS := Lib.hid hS
  clear hS hp1 ht1 hp2 ht2
  obtain ⟨na, hna⟩ : ∃ n, n = a.proof.length := ⟨_, rfl⟩
  obtain ⟨nb, hnb⟩ : ∃ n, n = b.proof.length := ⟨_, rfl⟩
  rw [← hna] at hP hA ⊢
  rw [← hnb] at hP hA ⊢
  have HP := Lib.hid hP
  clear hP hna hnb
  clear hra hrb ha hb hd hn
  obtain ⟨V1, hV1⟩ : ∃ V, V = (Value.slice B a.block.proof.length d) := ⟨_, rfl⟩
  obtain ⟨V2, hV2⟩ : ∃ V, V = (Value.slice D a.block.txs.length e) := ⟨_, rfl⟩
  obtain ⟨V3, hV3⟩ : ∃ V, V = (Value.slice B2 b.block.proof.length d2) := ⟨_, rfl⟩
  obtain ⟨V4, hV4⟩ : ∃ V, V = (Value.slice D2 b.block.txs.length e2) := ⟨_, rfl⟩
  rw [← hV1, ← hV2, ← hV3, ← hV4] at HS hA
  rw [← hV1, ← hV2, ← hV3, ← hV4]
  clear hV1 hV2 hV3 hV4
  obtain ⟨W0, hW0⟩ : ∃ W0, W0 = (w.alloc (.cells (mesC a (.slice A na c) V1 V2) 39)).alloc (.cells (mesC b (.slice A2 nb c2) V3 V4) 39) := ⟨_, rfl⟩
  have HW0 := hW0.symm
  rw [← hW0] at hA
  clear hW0
  obtain ⟨x0, x1, x2, x3, x4, x23⟩ := mes_ints hA.ba
  obtain ⟨y0, y1, y2, y3, y4, y23⟩ := mes_ints hA.bb
  have pc1 := mes_crt hA.ba
  have pc2 := mes_crt hA.bb
  have pt1 := mes_tmo hA.ba
  have pt2 := mes_tmo hA.bb
  have hP0 := HP.out W0 hA.bw
  go_enter Tryz.func11, Tryz.ntmps11
  go_wp2_with (first
    | (refine wpList_cells_at rfl _ _ rfl ⟨w.heap.size, 5, none⟩ rfl (crtL a.cert) _ pc1 Tryz.underlying24 rfl crtInfo ?_)
    | (refine wpList_cells_at rfl _ _ rfl ⟨w.heap.size + 1, 5, none⟩ rfl (crtL b.cert) _ pc2 Tryz.underlying24 rfl crtInfo ?_)
    | (refine wpList_binop rfl _ _ _ _ _ rfl (crtC a.cert) (crtC b.cert) rfl rfl (by kernel_rfl) (HC.out _) ?_)
    | (refine wpList_cells_at rfl _ _ rfl ⟨w.heap.size, 13, none⟩ rfl (tmL a.tm) _ pt1 Tryz.underlying26 rfl (tmInfoL _) ?_)
    | (refine wpList_cells_at rfl _ _ rfl ⟨w.heap.size + 1, 13, none⟩ rfl (tmL b.tm) _ pt2 Tryz.underlying26 rfl (tmInfoL _) ?_)
    | (refine wpList_binop rfl _ _ _ _ _ rfl (tmC a.tm) (tmC b.tm) rfl rfl (by kernel_rfl) (HM.out _) ?_)
    | (go_at_call 33; refine hP0.mono ?_; unfold gives; rintro e w1 ⟨rfl, hb1⟩; have hA1 := hA.below hb1; have pb1 := mes_blo hA1.ba; have pb2 := mes_blo hA1.bb; have hS1 := HS.out w1 hA1.bw)
    | (refine wpList_cells_at rfl _ _ rfl ⟨w.heap.size, 24, none⟩ rfl (bloL a.block V1 V2) _ pb1 Tryz.underlying30 rfl (bloInfoL _ _ _) ?_)
    | (refine wpList_cells_at rfl _ _ rfl ⟨w.heap.size + 1, 24, none⟩ rfl (bloL b.block V3 V4) _ pb2 Tryz.underlying30 rfl (bloInfoL _ _ _) ?_)
    | (go_at_call 34; refine hS1.mono ?_; unfold gives; rintro e w2 ⟨rfl, hb2⟩))
  go_ret
  exact ⟨rfl, nxt hA1.bw hb2⟩
end Go.Proofs.YtgmejaiifibfoaaGreatDoor

/-
  Are two messages the same: by the code.
-/
set_option linter.unusedSimpArgs false
set_option linter.unusedVariables false
set_option maxRecDepth 10000
namespace Go.Proofs.YtgmejaiifibfoaaGreatDoor
open Go.RowKit Go.Maps Go.Lib
open L3 (Blk Reads)
open L11 (Crt zeroC crtL crtC mayV okW crtInfo crtC_ones eqlC neqC wpList_binop)

theorem sameM_any (a b : Mes) (P Q T P' Q' T' : Value) (w : World) (ha : a.wf) (hb : b.wf) (la : LiesM w a P Q T) (lb : LiesM w b P' Q' T') :
    Calls Tryz.prog 11 #[.agg (mesC a P Q T), .agg (mesC b P' Q' T')] w (gives (.bool (sameMV a b)) w) := by
  rcases ten_ways (diffM a b) with ⟨i, hi, hd, hn⟩ | hd
  · rw [same_no hi hn]
    obtain rfl | rfl | rfl | rfl | rfl | rfl | rfl | rfl | rfl | rfl : i = 0 ∨ i = 1 ∨ i = 2 ∨ i = 3 ∨ i = 4 ∨ i = 5 ∨ i = 6 ∨ i = 7 ∨ i = 8 ∨ i = 9 := by omega
    · exact sameM_0 a b P Q T P' Q' T' w ha hb la lb hd hn
    · exact sameM_1 a b P Q T P' Q' T' w ha hb la lb hd hn
    · exact sameM_2 a b P Q T P' Q' T' w ha hb la lb hd hn
    · exact sameM_3 a b P Q T P' Q' T' w ha hb la lb hd hn
    · exact sameM_4 a b P Q T P' Q' T' w ha hb la lb hd hn
    · exact sameM_5 a b P Q T P' Q' T' w ha hb la lb hd hn
    · exact sameM_6 a b P Q T P' Q' T' w ha hb la lb hd hn
    · exact sameM_7 a b P Q T P' Q' T' w ha hb la lb hd hn
    · exact sameM_8 a b P Q T P' Q' T' w ha hb la lb hd hn
    · exact sameM_9 a b P Q T P' Q' T' w ha hb la lb hd hn
  · rw [same_yes hd]; exact sameM_10 a b P Q T P' Q' T' w ha hb la lb hd
end Go.Proofs.YtgmejaiifibfoaaGreatDoor
