/-
  Texts of one layer in one: RefSm1, RefSm.
-/
import Derived.Test.YtgmejaiifibfoaaGreatDoorR3
import Derived.Test.YtgmejaiifibfoaaGreatDoorM2
import Derived.Test.YtgmejaiifibfoaaGreatDoorRefSm2
import Derived.Test.YtgmejaiifibfoaaGreatDoorRefSm3
import Derived.Test.YtgmejaiifibfoaaGreatDoorRefSm4

/-
  Are two messages the same: by the document, where they differ first.
-/
set_option linter.unusedSimpArgs false
set_option linter.unusedVariables false
set_option maxRecDepth 10000
namespace Go.Proofs.YtgmejaiifibfoaaGreatDoor
open Go.RowKit Go.Maps Go.Lib
open L3 (Blk Reads)
open L11 (Crt zeroC crtL crtC mayV okW crtInfo crtC_ones eqlC neqC wpList_binop)

set_option maxHeartbeats 4000000 in
set_option maxRecDepth 100000 in
theorem refSm_0 (a b : Mes) (P Q T P' Q' T' : Value) (w : World) (ha : a.wf) (hb : b.wf) (la : LiesM w a P Q T) (lb : LiesM w b P' Q' T') (hd : ∀ j, j < 0 → diffM a b (refO j) = true) (hn : diffM a b (refO 0) = false) :
    Calls Tryz.prog 12 #[.agg (mesC a P Q T), .agg (mesC b P' Q' T')] w (gives (.bool false) w) := by
  have hA0 := Lib.hid (twoR_mk la lb)
  have q0 : (a.kind != b.kind) = true := ne_d true (show decide (a.kind = b.kind) = false from hn) rfl
  obtain ⟨A, c, rfl, hra, hla⟩ := la
  obtain ⟨A2, c2, rfl, hrb, hlb⟩ := lb
  obtain ⟨na, hna⟩ : ∃ n, n = a.proof.length := ⟨_, rfl⟩
  obtain ⟨nb, hnb⟩ : ∃ n, n = b.proof.length := ⟨_, rfl⟩
  rw [← hna] at hA0 ⊢
  rw [← hnb] at hA0 ⊢
  clear hna hnb hra hrb hla hlb ha hb hd hn
  go_enter Tryz.func12, Tryz.ntmps12
  go_upto_region 1 with fail
  refine name_world (fun W0 hW0 => ?_)
  have hA : TwoR w a b (.slice A na c) Q T (.slice A2 nb c2) Q' T' W0 := by rw [hW0]; exact hA0.out
  clear hW0 hA0
  obtain ⟨x0, x1, x2, x3, x4, x23⟩ := mes_ints hA.ba
  obtain ⟨y0, y1, y2, y3, y4, y23⟩ := mes_ints hA.bb
  go_wp2
  go_ret
  exact ⟨rfl, hA.bw⟩
set_option maxHeartbeats 4000000 in
set_option maxRecDepth 100000 in
theorem refSm_1 (a b : Mes) (P Q T P' Q' T' : Value) (w : World) (ha : a.wf) (hb : b.wf) (la : LiesM w a P Q T) (lb : LiesM w b P' Q' T') (hd : ∀ j, j < 1 → diffM a b (refO j) = true) (hn : diffM a b (refO 1) = false) :
    Calls Tryz.prog 12 #[.agg (mesC a P Q T), .agg (mesC b P' Q' T')] w (gives (.bool false) w) := by
  have hA0 := Lib.hid (twoR_mk la lb)
  have q0 : (a.kind != b.kind) = false := ne_d false (show decide (a.kind = b.kind) = true from hd 0 (by omega)) rfl
  have q1 : (a.signer != b.signer) = true := ne_d true (show decide (a.signer = b.signer) = false from hn) rfl
  obtain ⟨A, c, rfl, hra, hla⟩ := la
  obtain ⟨A2, c2, rfl, hrb, hlb⟩ := lb
  obtain ⟨na, hna⟩ : ∃ n, n = a.proof.length := ⟨_, rfl⟩
  obtain ⟨nb, hnb⟩ : ∃ n, n = b.proof.length := ⟨_, rfl⟩
  rw [← hna] at hA0 ⊢
  rw [← hnb] at hA0 ⊢
  clear hna hnb hra hrb hla hlb ha hb hd hn
  go_enter Tryz.func12, Tryz.ntmps12
  go_upto_region 1 with fail
  refine name_world (fun W0 hW0 => ?_)
  have hA : TwoR w a b (.slice A na c) Q T (.slice A2 nb c2) Q' T' W0 := by rw [hW0]; exact hA0.out
  clear hW0 hA0
  obtain ⟨x0, x1, x2, x3, x4, x23⟩ := mes_ints hA.ba
  obtain ⟨y0, y1, y2, y3, y4, y23⟩ := mes_ints hA.bb
  go_wp2
  go_ret
  exact ⟨rfl, hA.bw⟩
set_option maxHeartbeats 4000000 in
set_option maxRecDepth 100000 in
theorem refSm_2 (a b : Mes) (P Q T P' Q' T' : Value) (w : World) (ha : a.wf) (hb : b.wf) (la : LiesM w a P Q T) (lb : LiesM w b P' Q' T') (hd : ∀ j, j < 2 → diffM a b (refO j) = true) (hn : diffM a b (refO 2) = false) :
    Calls Tryz.prog 12 #[.agg (mesC a P Q T), .agg (mesC b P' Q' T')] w (gives (.bool false) w) := by
  have hA0 := Lib.hid (twoR_mk la lb)
  have q0 : (a.kind != b.kind) = false := ne_d false (show decide (a.kind = b.kind) = true from hd 0 (by omega)) rfl
  have q1 : (a.signer != b.signer) = false := ne_d false (show decide (a.signer = b.signer) = true from hd 1 (by omega)) rfl
  have q2 : (a.view != b.view) = true := ne_d true (show decide (a.view = b.view) = false from hn) rfl
  obtain ⟨A, c, rfl, hra, hla⟩ := la
  obtain ⟨A2, c2, rfl, hrb, hlb⟩ := lb
  obtain ⟨na, hna⟩ : ∃ n, n = a.proof.length := ⟨_, rfl⟩
  obtain ⟨nb, hnb⟩ : ∃ n, n = b.proof.length := ⟨_, rfl⟩
  rw [← hna] at hA0 ⊢
  rw [← hnb] at hA0 ⊢
  clear hna hnb hra hrb hla hlb ha hb hd hn
  go_enter Tryz.func12, Tryz.ntmps12
  go_upto_region 1 with fail
  refine name_world (fun W0 hW0 => ?_)
  have hA : TwoR w a b (.slice A na c) Q T (.slice A2 nb c2) Q' T' W0 := by rw [hW0]; exact hA0.out
  clear hW0 hA0
  obtain ⟨x0, x1, x2, x3, x4, x23⟩ := mes_ints hA.ba
  obtain ⟨y0, y1, y2, y3, y4, y23⟩ := mes_ints hA.bb
  go_wp2
  go_ret
  exact ⟨rfl, hA.bw⟩
set_option maxHeartbeats 4000000 in
set_option maxRecDepth 100000 in
theorem refSm_3 (a b : Mes) (P Q T P' Q' T' : Value) (w : World) (ha : a.wf) (hb : b.wf) (la : LiesM w a P Q T) (lb : LiesM w b P' Q' T') (hd : ∀ j, j < 3 → diffM a b (refO j) = true) (hn : diffM a b (refO 3) = false) :
    Calls Tryz.prog 12 #[.agg (mesC a P Q T), .agg (mesC b P' Q' T')] w (gives (.bool false) w) := by
  have hA0 := Lib.hid (twoR_mk la lb)
  have q0 : (a.kind != b.kind) = false := ne_d false (show decide (a.kind = b.kind) = true from hd 0 (by omega)) rfl
  have q1 : (a.signer != b.signer) = false := ne_d false (show decide (a.signer = b.signer) = true from hd 1 (by omega)) rfl
  have q2 : (a.view != b.view) = false := ne_d false (show decide (a.view = b.view) = true from hd 2 (by omega)) rfl
  have q3 : (a.n != b.n) = true := ne_d true (show decide (a.n = b.n) = false from hn) rfl
  obtain ⟨A, c, rfl, hra, hla⟩ := la
  obtain ⟨A2, c2, rfl, hrb, hlb⟩ := lb
  obtain ⟨na, hna⟩ : ∃ n, n = a.proof.length := ⟨_, rfl⟩
  obtain ⟨nb, hnb⟩ : ∃ n, n = b.proof.length := ⟨_, rfl⟩
  rw [← hna] at hA0 ⊢
  rw [← hnb] at hA0 ⊢
  clear hna hnb hra hrb hla hlb ha hb hd hn
  go_enter Tryz.func12, Tryz.ntmps12
  go_upto_region 1 with fail
  refine name_world (fun W0 hW0 => ?_)
  have hA : TwoR w a b (.slice A na c) Q T (.slice A2 nb c2) Q' T' W0 := by rw [hW0]; exact hA0.out
  clear hW0 hA0
  obtain ⟨x0, x1, x2, x3, x4, x23⟩ := mes_ints hA.ba
  obtain ⟨y0, y1, y2, y3, y4, y23⟩ := mes_ints hA.bb
  go_wp2
  go_ret
  exact ⟨rfl, hA.bw⟩
set_option maxHeartbeats 4000000 in
set_option maxRecDepth 100000 in
theorem refSm_4 (a b : Mes) (P Q T P' Q' T' : Value) (w : World) (ha : a.wf) (hb : b.wf) (la : LiesM w a P Q T) (lb : LiesM w b P' Q' T') (hd : ∀ j, j < 4 → diffM a b (refO j) = true) (hn : diffM a b (refO 4) = false) :
    Calls Tryz.prog 12 #[.agg (mesC a P Q T), .agg (mesC b P' Q' T')] w (gives (.bool false) w) := by
  have hA0 := Lib.hid (twoR_mk la lb)
  have q0 : (a.kind != b.kind) = false := ne_d false (show decide (a.kind = b.kind) = true from hd 0 (by omega)) rfl
  have q1 : (a.signer != b.signer) = false := ne_d false (show decide (a.signer = b.signer) = true from hd 1 (by omega)) rfl
  have q2 : (a.view != b.view) = false := ne_d false (show decide (a.view = b.view) = true from hd 2 (by omega)) rfl
  have q3 : (a.n != b.n) = false := ne_d false (show decide (a.n = b.n) = true from hd 3 (by omega)) rfl
  have q4 : ((a.set : Int) != (b.set : Int)) = true := ne_u true (show decide (a.set = b.set) = false from hn) rfl
  obtain ⟨A, c, rfl, hra, hla⟩ := la
  obtain ⟨A2, c2, rfl, hrb, hlb⟩ := lb
  obtain ⟨na, hna⟩ : ∃ n, n = a.proof.length := ⟨_, rfl⟩
  obtain ⟨nb, hnb⟩ : ∃ n, n = b.proof.length := ⟨_, rfl⟩
  rw [← hna] at hA0 ⊢
  rw [← hnb] at hA0 ⊢
  clear hna hnb hra hrb hla hlb ha hb hd hn
  go_enter Tryz.func12, Tryz.ntmps12
  go_upto_region 1 with fail
  refine name_world (fun W0 hW0 => ?_)
  have hA : TwoR w a b (.slice A na c) Q T (.slice A2 nb c2) Q' T' W0 := by rw [hW0]; exact hA0.out
  clear hW0 hA0
  obtain ⟨x0, x1, x2, x3, x4, x23⟩ := mes_ints hA.ba
  obtain ⟨y0, y1, y2, y3, y4, y23⟩ := mes_ints hA.bb
  go_wp2
  go_ret
  exact ⟨rfl, hA.bw⟩
end Go.Proofs.YtgmejaiifibfoaaGreatDoor

/-
  Are two messages the same: by the document.
-/
set_option linter.unusedSimpArgs false
set_option linter.unusedVariables false
set_option maxRecDepth 10000
namespace Go.Proofs.YtgmejaiifibfoaaGreatDoor
open Go.RowKit Go.Maps Go.Lib
open L3 (Blk Reads)
open L11 (Crt zeroC crtL crtC mayV okW crtInfo crtC_ones eqlC neqC wpList_binop)

theorem refSm_any (a b : Mes) (P Q T P' Q' T' : Value) (w : World) (ha : a.wf) (hb : b.wf) (la : LiesM w a P Q T) (lb : LiesM w b P' Q' T') :
    Calls Tryz.prog 12 #[.agg (mesC a P Q T), .agg (mesC b P' Q' T')] w (gives (.bool (sameMV a b)) w) := by
  rcases refO_ways (diffM a b) with ⟨i, hi, hd, hn⟩ | hd
  · have hi2 : refO i < 10 := by
      obtain rfl | rfl | rfl | rfl | rfl | rfl | rfl | rfl | rfl | rfl : i = 0 ∨ i = 1 ∨ i = 2 ∨ i = 3 ∨ i = 4 ∨ i = 5 ∨ i = 6 ∨ i = 7 ∨ i = 8 ∨ i = 9 := by omega
      all_goals decide
    rw [same_no hi2 hn]
    obtain rfl | rfl | rfl | rfl | rfl | rfl | rfl | rfl | rfl | rfl : i = 0 ∨ i = 1 ∨ i = 2 ∨ i = 3 ∨ i = 4 ∨ i = 5 ∨ i = 6 ∨ i = 7 ∨ i = 8 ∨ i = 9 := by omega
    · exact refSm_0 a b P Q T P' Q' T' w ha hb la lb hd hn
    · exact refSm_1 a b P Q T P' Q' T' w ha hb la lb hd hn
    · exact refSm_2 a b P Q T P' Q' T' w ha hb la lb hd hn
    · exact refSm_3 a b P Q T P' Q' T' w ha hb la lb hd hn
    · exact refSm_4 a b P Q T P' Q' T' w ha hb la lb hd hn
    · exact refSm_5 a b P Q T P' Q' T' w ha hb la lb hd hn
    · exact refSm_6 a b P Q T P' Q' T' w ha hb la lb hd hn
    · exact refSm_7 a b P Q T P' Q' T' w ha hb la lb hd hn
    · exact refSm_8 a b P Q T P' Q' T' w ha hb la lb hd hn
    · exact refSm_9 a b P Q T P' Q' T' w ha hb la lb hd hn
  · rw [same_yes hd]
    refine refSm_10 a b P Q T P' Q' T' w ha hb la lb (fun j hj => hd _ ?_)
    obtain rfl | rfl | rfl | rfl | rfl | rfl | rfl | rfl | rfl | rfl : j = 0 ∨ j = 1 ∨ j = 2 ∨ j = 3 ∨ j = 4 ∨ j = 5 ∨ j = 6 ∨ j = 7 ∨ j = 8 ∨ j = 9 := by omega
    all_goals decide
end Go.Proofs.YtgmejaiifibfoaaGreatDoor
