/-
  Are two messages the same: by the code, where they differ first.
-/
import Derived.Test.YtgmejaiifibfoaaDoorTwoM
set_option linter.unusedSimpArgs false
set_option linter.unusedVariables false
set_option maxRecDepth 10000
namespace Go.Proofs.YtgmejaiifibfoaaDoor
open Go.RowKit Go.Maps Go.Lib
open L3 (Blk Reads)
open L11 (Crt zeroC crtL crtC mayV okW crtInfo crtC_ones eqlC neqC wpList_binop)

set_option maxHeartbeats 4000000 in
set_option maxRecDepth 100000 in
theorem sameM_0 (a b : Mes) (P Q T P' Q' T' : Value) (w : World) (ha : a.wf) (hb : b.wf) (la : LiesM w a P Q T) (lb : LiesM w b P' Q' T') (hd : ∀ j, j < 0 → diffM a b j = true) (hn : diffM a b 0 = false) :
    Calls Tryd.prog 9 #[.agg (mesC a P Q T), .agg (mesC b P' Q' T')] w (gives (.bool false) w) := by
  have hA := twoM_mk la lb
  obtain ⟨q0, _⟩ := beq_d (x := a.kind) (y := b.kind) (show decide (a.kind = b.kind) = false from hn)
  obtain ⟨A, c, rfl, hra, hla⟩ := la
  obtain ⟨A2, c2, rfl, hrb, hlb⟩ := lb
  obtain ⟨na, hna⟩ : ∃ n, n = a.proof.length := ⟨_, rfl⟩
  obtain ⟨nb, hnb⟩ : ∃ n, n = b.proof.length := ⟨_, rfl⟩
  rw [← hna] at hA ⊢
  rw [← hnb] at hA ⊢
  clear hna hnb
  clear hra hrb hla hlb ha hb hd hn
  obtain ⟨W0, hW0⟩ : ∃ W0, W0 = (w.alloc (.cells (mesC a (.slice A na c) Q T) 40)).alloc (.cells (mesC b (.slice A2 nb c2) Q' T') 40) := ⟨_, rfl⟩
  have HW0 := hW0.symm
  rw [← hW0] at hA
  clear hW0
  obtain ⟨x0, x1, x2, x3, x4, x23⟩ := mes_ints hA.ba
  obtain ⟨y0, y1, y2, y3, y4, y23⟩ := mes_ints hA.bb
  go_enter Tryd.func9, Tryd.ntmps9
  go_wp2
  go_ret
  exact ⟨rfl, hA.bw⟩
set_option maxHeartbeats 4000000 in
set_option maxRecDepth 100000 in
theorem sameM_1 (a b : Mes) (P Q T P' Q' T' : Value) (w : World) (ha : a.wf) (hb : b.wf) (la : LiesM w a P Q T) (lb : LiesM w b P' Q' T') (hd : ∀ j, j < 1 → diffM a b j = true) (hn : diffM a b 1 = false) :
    Calls Tryd.prog 9 #[.agg (mesC a P Q T), .agg (mesC b P' Q' T')] w (gives (.bool false) w) := by
  have hA := twoM_mk la lb
  obtain ⟨q0, _⟩ := beq_d (x := a.kind) (y := b.kind) (show decide (a.kind = b.kind) = true from hd 0 (by omega))
  obtain ⟨q1, _⟩ := beq_d (x := a.signer) (y := b.signer) (show decide (a.signer = b.signer) = false from hn)
  obtain ⟨A, c, rfl, hra, hla⟩ := la
  obtain ⟨A2, c2, rfl, hrb, hlb⟩ := lb
  obtain ⟨na, hna⟩ : ∃ n, n = a.proof.length := ⟨_, rfl⟩
  obtain ⟨nb, hnb⟩ : ∃ n, n = b.proof.length := ⟨_, rfl⟩
  rw [← hna] at hA ⊢
  rw [← hnb] at hA ⊢
  clear hna hnb
  clear hra hrb hla hlb ha hb hd hn
  obtain ⟨W0, hW0⟩ : ∃ W0, W0 = (w.alloc (.cells (mesC a (.slice A na c) Q T) 40)).alloc (.cells (mesC b (.slice A2 nb c2) Q' T') 40) := ⟨_, rfl⟩
  have HW0 := hW0.symm
  rw [← hW0] at hA
  clear hW0
  obtain ⟨x0, x1, x2, x3, x4, x23⟩ := mes_ints hA.ba
  obtain ⟨y0, y1, y2, y3, y4, y23⟩ := mes_ints hA.bb
  go_enter Tryd.func9, Tryd.ntmps9
  go_wp2
  go_ret
  exact ⟨rfl, hA.bw⟩
set_option maxHeartbeats 4000000 in
set_option maxRecDepth 100000 in
theorem sameM_2 (a b : Mes) (P Q T P' Q' T' : Value) (w : World) (ha : a.wf) (hb : b.wf) (la : LiesM w a P Q T) (lb : LiesM w b P' Q' T') (hd : ∀ j, j < 2 → diffM a b j = true) (hn : diffM a b 2 = false) :
    Calls Tryd.prog 9 #[.agg (mesC a P Q T), .agg (mesC b P' Q' T')] w (gives (.bool false) w) := by
  have hA := twoM_mk la lb
  obtain ⟨q0, _⟩ := beq_d (x := a.kind) (y := b.kind) (show decide (a.kind = b.kind) = true from hd 0 (by omega))
  obtain ⟨q1, _⟩ := beq_d (x := a.signer) (y := b.signer) (show decide (a.signer = b.signer) = true from hd 1 (by omega))
  obtain ⟨q2, _⟩ := beq_d (x := a.view) (y := b.view) (show decide (a.view = b.view) = false from hn)
  obtain ⟨A, c, rfl, hra, hla⟩ := la
  obtain ⟨A2, c2, rfl, hrb, hlb⟩ := lb
  obtain ⟨na, hna⟩ : ∃ n, n = a.proof.length := ⟨_, rfl⟩
  obtain ⟨nb, hnb⟩ : ∃ n, n = b.proof.length := ⟨_, rfl⟩
  rw [← hna] at hA ⊢
  rw [← hnb] at hA ⊢
  clear hna hnb
  clear hra hrb hla hlb ha hb hd hn
  obtain ⟨W0, hW0⟩ : ∃ W0, W0 = (w.alloc (.cells (mesC a (.slice A na c) Q T) 40)).alloc (.cells (mesC b (.slice A2 nb c2) Q' T') 40) := ⟨_, rfl⟩
  have HW0 := hW0.symm
  rw [← hW0] at hA
  clear hW0
  obtain ⟨x0, x1, x2, x3, x4, x23⟩ := mes_ints hA.ba
  obtain ⟨y0, y1, y2, y3, y4, y23⟩ := mes_ints hA.bb
  go_enter Tryd.func9, Tryd.ntmps9
  go_wp2
  go_ret
  exact ⟨rfl, hA.bw⟩
set_option maxHeartbeats 4000000 in
set_option maxRecDepth 100000 in
theorem sameM_3 (a b : Mes) (P Q T P' Q' T' : Value) (w : World) (ha : a.wf) (hb : b.wf) (la : LiesM w a P Q T) (lb : LiesM w b P' Q' T') (hd : ∀ j, j < 3 → diffM a b j = true) (hn : diffM a b 3 = false) :
    Calls Tryd.prog 9 #[.agg (mesC a P Q T), .agg (mesC b P' Q' T')] w (gives (.bool false) w) := by
  have hA := twoM_mk la lb
  obtain ⟨q0, _⟩ := beq_d (x := a.kind) (y := b.kind) (show decide (a.kind = b.kind) = true from hd 0 (by omega))
  obtain ⟨q1, _⟩ := beq_d (x := a.signer) (y := b.signer) (show decide (a.signer = b.signer) = true from hd 1 (by omega))
  obtain ⟨q2, _⟩ := beq_d (x := a.view) (y := b.view) (show decide (a.view = b.view) = true from hd 2 (by omega))
  obtain ⟨q3, _⟩ := beq_d (x := a.n) (y := b.n) (show decide (a.n = b.n) = false from hn)
  obtain ⟨A, c, rfl, hra, hla⟩ := la
  obtain ⟨A2, c2, rfl, hrb, hlb⟩ := lb
  obtain ⟨na, hna⟩ : ∃ n, n = a.proof.length := ⟨_, rfl⟩
  obtain ⟨nb, hnb⟩ : ∃ n, n = b.proof.length := ⟨_, rfl⟩
  rw [← hna] at hA ⊢
  rw [← hnb] at hA ⊢
  clear hna hnb
  clear hra hrb hla hlb ha hb hd hn
  obtain ⟨W0, hW0⟩ : ∃ W0, W0 = (w.alloc (.cells (mesC a (.slice A na c) Q T) 40)).alloc (.cells (mesC b (.slice A2 nb c2) Q' T') 40) := ⟨_, rfl⟩
  have HW0 := hW0.symm
  rw [← hW0] at hA
  clear hW0
  obtain ⟨x0, x1, x2, x3, x4, x23⟩ := mes_ints hA.ba
  obtain ⟨y0, y1, y2, y3, y4, y23⟩ := mes_ints hA.bb
  go_enter Tryd.func9, Tryd.ntmps9
  go_wp2
  go_ret
  exact ⟨rfl, hA.bw⟩
set_option maxHeartbeats 4000000 in
set_option maxRecDepth 100000 in
theorem sameM_4 (a b : Mes) (P Q T P' Q' T' : Value) (w : World) (ha : a.wf) (hb : b.wf) (la : LiesM w a P Q T) (lb : LiesM w b P' Q' T') (hd : ∀ j, j < 4 → diffM a b j = true) (hn : diffM a b 4 = false) :
    Calls Tryd.prog 9 #[.agg (mesC a P Q T), .agg (mesC b P' Q' T')] w (gives (.bool false) w) := by
  have hA := twoM_mk la lb
  obtain ⟨q0, _⟩ := beq_d (x := a.kind) (y := b.kind) (show decide (a.kind = b.kind) = true from hd 0 (by omega))
  obtain ⟨q1, _⟩ := beq_d (x := a.signer) (y := b.signer) (show decide (a.signer = b.signer) = true from hd 1 (by omega))
  obtain ⟨q2, _⟩ := beq_d (x := a.view) (y := b.view) (show decide (a.view = b.view) = true from hd 2 (by omega))
  obtain ⟨q3, _⟩ := beq_d (x := a.n) (y := b.n) (show decide (a.n = b.n) = true from hd 3 (by omega))
  obtain ⟨q4, _⟩ := beq_u (x := a.set) (y := b.set) (show decide (a.set = b.set) = false from hn)
  obtain ⟨A, c, rfl, hra, hla⟩ := la
  obtain ⟨A2, c2, rfl, hrb, hlb⟩ := lb
  obtain ⟨na, hna⟩ : ∃ n, n = a.proof.length := ⟨_, rfl⟩
  obtain ⟨nb, hnb⟩ : ∃ n, n = b.proof.length := ⟨_, rfl⟩
  rw [← hna] at hA ⊢
  rw [← hnb] at hA ⊢
  clear hna hnb
  clear hra hrb hla hlb ha hb hd hn
  obtain ⟨W0, hW0⟩ : ∃ W0, W0 = (w.alloc (.cells (mesC a (.slice A na c) Q T) 40)).alloc (.cells (mesC b (.slice A2 nb c2) Q' T') 40) := ⟨_, rfl⟩
  have HW0 := hW0.symm
  rw [← hW0] at hA
  clear hW0
  obtain ⟨x0, x1, x2, x3, x4, x23⟩ := mes_ints hA.ba
  obtain ⟨y0, y1, y2, y3, y4, y23⟩ := mes_ints hA.bb
  go_enter Tryd.func9, Tryd.ntmps9
  go_wp2
  go_ret
  exact ⟨rfl, hA.bw⟩
end Go.Proofs.YtgmejaiifibfoaaDoor
