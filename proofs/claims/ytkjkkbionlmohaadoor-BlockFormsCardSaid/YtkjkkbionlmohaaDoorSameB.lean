/-
  Are two blocks the same: by the code.
-/
import Derived.Test.YtkjkkbionlmohaaDoorEqB
set_option linter.unusedSimpArgs false
set_option linter.unusedVariables false
set_option maxRecDepth 10000
namespace Go.Proofs.YtkjkkbionlmohaaDoor
open Go.RowKit Go.Lib
open L3 (Blk Reads)
open L11 (Crt zeroC crtL crtC mayV okW crtInfo crtC_ones eqlC neqC wpList_binop)

/-- Two blocks' boxes, their lists. -/
structure TwoB (w : World) (a b : Blo) (A : Option Addr) (c : Nat) (B : Option Addr) (d : Nat) (A' : Option Addr) (c' : Nat) (B' : Option Addr) (d' : Nat) (W : World) : Prop where
  ba : Blk W w.heap.size 28 (bloC a (.slice A a.proof.length c) (.slice B a.txs.length d))
  bb : Blk W (w.heap.size + 1) 28 (bloC b (.slice A' b.proof.length c') (.slice B' b.txs.length d'))
  pa : Rd tmL 10 W A a.proof
  ta : Rd txL 7 W B a.txs
  pb : Rd tmL 10 W A' b.proof
  tb : Rd txL 7 W B' b.txs
  bw : Below w.heap.size w W
section
variable {w W W' : World} {a b : Blo} {A : Option Addr} {c : Nat} {B : Option Addr} {d : Nat} {A' : Option Addr} {c' : Nat} {B' : Option Addr} {d' : Nat}
theorem TwoB.below (h : TwoB w a b A c B d A' c' B' d' W) (hb : Below W.heap.size W W') : TwoB w a b A c B d A' c' B' d' W' :=
  ⟨h.ba.below hb h.ba.lt, h.bb.below hb h.bb.lt, h.pa.below hb, h.ta.below hb, h.pb.below hb, h.tb.below hb, nxt h.bw hb⟩
theorem TwoB.drew (h : TwoB w a b A c B d A' c' B' d' W) : TwoB w a b A c B d A' c' B' d' W.drew := h.below (Below.refl _ W).drew
theorem twoB_mk (pa : Rd tmL 10 w A a.proof) (ta : Rd txL 7 w B a.txs) (pb : Rd tmL 10 w A' b.proof) (tb : Rd txL 7 w B' b.txs) :
    TwoB w a b A c B d A' c' B' d' ((w.alloc (.cells (bloC a (.slice A a.proof.length c) (.slice B a.txs.length d)) 28)).alloc (.cells (bloC b (.slice A' b.proof.length c') (.slice B' b.txs.length d')) 28)) := by
  have hb := below_new w (.cells (bloC a (.slice A a.proof.length c) (.slice B a.txs.length d)) 28)
  have hb2 := hb.alloc hb.size (.cells (bloC b (.slice A' b.proof.length c') (.slice B' b.txs.length d')) 28)
  refine ⟨(blo_new _ _ _ _ _).alloc _, ?_, pa.below hb2, ta.below hb2, pb.below hb2, tb.below hb2, hb2⟩
  have := blo_new (w.alloc (.cells (bloC a (.slice A a.proof.length c) (.slice B a.txs.length d)) 28)) 28 b (.slice A' b.proof.length c') (.slice B' b.txs.length d')
  simpa using this
theorem TwoB.cells (h : TwoB w a b A c B d A' c' B' d' W) : (W.cell? ⟨w.heap.size, 0, none⟩ = some (.int .i64 a.view) ∧ W.cell? ⟨w.heap.size, 1, none⟩ = some (.int .i64 a.round) ∧ W.cell? ⟨w.heap.size, 2, none⟩ = some (.int .i64 a.height) ∧ W.cell? ⟨w.heap.size, 3, none⟩ = some (.int .i64 a.author) ∧ W.cell? ⟨w.heap.size, 12, none⟩ = some (.slice A a.proof.length c) ∧ W.cell? ⟨w.heap.size, 13, none⟩ = some (.slice B a.txs.length d)) ∧
    (W.cell? ⟨w.heap.size + 1, 0, none⟩ = some (.int .i64 b.view) ∧ W.cell? ⟨w.heap.size + 1, 1, none⟩ = some (.int .i64 b.round) ∧ W.cell? ⟨w.heap.size + 1, 2, none⟩ = some (.int .i64 b.height) ∧ W.cell? ⟨w.heap.size + 1, 3, none⟩ = some (.int .i64 b.author) ∧ W.cell? ⟨w.heap.size + 1, 12, none⟩ = some (.slice A' b.proof.length c') ∧ W.cell? ⟨w.heap.size + 1, 13, none⟩ = some (.slice B' b.txs.length d')) :=
  ⟨⟨h.ba.cell 0, h.ba.cell 1, h.ba.cell 2, h.ba.cell 3, h.ba.cell 12, h.ba.cell 13⟩, h.bb.cell 0, h.bb.cell 1, h.bb.cell 2, h.bb.cell 3, h.bb.cell 12, h.bb.cell 13⟩
theorem TwoB.pars (h : TwoB w a b A c B d A' c' B' d' W) : (∀ j u, (crtL a.par)[j]? = some u → W.cell? ((⟨w.heap.size, 4, none⟩ : Addr).add j) = some u) ∧ (∀ j u, (crtL b.par)[j]? = some u → W.cell? ((⟨w.heap.size + 1, 4, none⟩ : Addr).add j) = some u) := ⟨sub_cells h.ba (par_at a _ _), sub_cells h.bb (par_at b _ _)⟩
end
/-- Are they the same? -/
def sameV (a b : Blo) : Bool := decide (a.view = b.view) && (decide (a.round = b.round) && (decide (a.height = b.height) && (decide (a.author = b.author) && (decide (a.par = b.par) && (decide (a.proof = b.proof) && decide (a.txs = b.txs))))))
theorem sameV_iff (a b : Blo) : sameV a b = decide (a = b) := by
  obtain ⟨a0, a1, a2, a3, a4, a5, a6⟩ := a
  obtain ⟨b0, b1, b2, b3, b4, b5, b6⟩ := b
  rw [Bool.eq_iff_iff]
  simp [sameV]
theorem sameV_refl (a : Blo) : sameV a a = true := by rw [sameV_iff]; simp
theorem seven (a b c d e f g : Bool) : a = false ∨ (a = true ∧ b = false) ∨ (a = true ∧ b = true ∧ c = false) ∨ (a = true ∧ b = true ∧ c = true ∧ d = false) ∨ (a = true ∧ b = true ∧ c = true ∧ d = true ∧ e = false) ∨ (a = true ∧ b = true ∧ c = true ∧ d = true ∧ e = true ∧ f = false) ∨ (a = true ∧ b = true ∧ c = true ∧ d = true ∧ e = true ∧ f = true ∧ g = false) ∨ (a = true ∧ b = true ∧ c = true ∧ d = true ∧ e = true ∧ f = true ∧ g = true) := by
  cases a <;> cases b <;> cases c <;> cases d <;> cases e <;> cases f <;> cases g <;> simp
theorem beq_d {x y : Int} {r : Bool} (h : decide (x = y) = r) : (x == y) = r ∧ (x != y) = !r := by rw [← h]; exact ⟨rfl, rfl⟩
set_option maxHeartbeats 4000000 in
set_option maxRecDepth 100000 in
theorem sameB_any (a b : Blo) (A : Option Addr) (c : Nat) (B : Option Addr) (d : Nat) (A' : Option Addr) (c' : Nat) (B' : Option Addr) (d' : Nat) (w : World) (ha : a.wf) (hb : b.wf)
    (pa : Rd tmL 10 w A a.proof) (ta : Rd txL 7 w B a.txs) (pb : Rd tmL 10 w A' b.proof) (tb : Rd txL 7 w B' b.txs) :
    Calls Tryd.prog 19 #[.agg (bloC a (.slice A a.proof.length c) (.slice B a.txs.length d)), .agg (bloC b (.slice A' b.proof.length c') (.slice B' b.txs.length d'))] w (gives (.bool (sameV a b)) w) := by
  have F0 := Lib.hid (twoB_mk (c := c) (d := d) (c' := c') (d' := d') pa ta pb tb)
  have HP := Lib.hid (fun W r (h : TwoB w a b A c B d A' c' B' d' W) hr => eqTms_is A c a.proof A' c' b.proof r W ha.proof hb.proof h.pa h.pb (by have := ha.np; omega) (by have := hb.np; omega) hr)
  have HT := Lib.hid (fun W r (h : TwoB w a b A c B d A' c' B' d' W) hr => eqTxs_is B d a.txs B' d' b.txs r W ha.txs hb.txs h.ta h.tb (by have := ha.nt; omega) (by have := hb.nt; omega) hr)
  have HC := Lib.hid (fun W => eqlC ha.par hb.par W)
  have e : sameV a b = (decide (a.view = b.view) && (decide (a.round = b.round) && (decide (a.height = b.height) && (decide (a.author = b.author) && (decide (a.par = b.par) && (decide (a.proof = b.proof) && decide (a.txs = b.txs))))))) := rfl
  clear ha hb pa ta pb tb
  go_enter Tryd.func19, Tryd.ntmps19
  go_upto_region 1 with fail
  refine name_world (fun w0 hw0 => ?_)
  have hA : TwoB w a b A c B d A' c' B' d' w0 := by rw [hw0]; exact F0.out
  clear hw0 F0
  obtain ⟨⟨x0, x1, x2, x3, x12, x13⟩, y0, y1, y2, y3, y12, y13⟩ := hA.cells
  obtain ⟨px, py⟩ := hA.pars
  have hbw := hA.bw
  rcases seven (decide (a.view = b.view)) (decide (a.round = b.round)) (decide (a.height = b.height)) (decide (a.author = b.author)) (decide (a.par = b.par)) (decide (a.proof = b.proof)) (decide (a.txs = b.txs)) with a1 | ⟨a1, a2⟩ | ⟨a1, a2, a3⟩ | ⟨a1, a2, a3, a4⟩ | ⟨a1, a2, a3, a4, a5⟩ | ⟨a1, a2, a3, a4, a5, a6⟩ | ⟨a1, a2, a3, a4, a5, a6, a7⟩ | ⟨a1, a2, a3, a4, a5, a6, a7⟩
  · rw [a1] at e
    have E := Lib.hid e
    obtain ⟨q1, _⟩ := beq_d a1
    clear e a1 HP HT HC hA
    go_wp2
    go_ret
    exact ⟨by rw [E.out]; rfl, hbw⟩
  · rw [a1, a2] at e
    have E := Lib.hid e
    obtain ⟨q1, _⟩ := beq_d a1
    obtain ⟨q2, _⟩ := beq_d a2
    clear e a1 a2 HP HT HC hA
    go_wp2
    go_ret
    exact ⟨by rw [E.out]; rfl, hbw⟩
  · rw [a1, a2, a3] at e
    have E := Lib.hid e
    obtain ⟨q1, _⟩ := beq_d a1
    obtain ⟨q2, _⟩ := beq_d a2
    obtain ⟨q3, _⟩ := beq_d a3
    clear e a1 a2 a3 HP HT HC hA
    go_wp2
    go_ret
    exact ⟨by rw [E.out]; rfl, hbw⟩
  · rw [a1, a2, a3, a4] at e
    have E := Lib.hid e
    obtain ⟨q1, _⟩ := beq_d a1
    obtain ⟨q2, _⟩ := beq_d a2
    obtain ⟨q3, _⟩ := beq_d a3
    obtain ⟨q4, _⟩ := beq_d a4
    clear e a1 a2 a3 a4 HP HT HC hA
    go_wp2
    go_ret
    exact ⟨by rw [E.out]; rfl, hbw⟩
  · rw [a1, a2, a3, a4, a5] at e
    have E := Lib.hid e
    obtain ⟨q1, _⟩ := beq_d a1
    obtain ⟨q2, _⟩ := beq_d a2
    obtain ⟨q3, _⟩ := beq_d a3
    obtain ⟨q4, _⟩ := beq_d a4
    have hC := HC.out
    rw [a5] at hC
    have HC2 := Lib.hid hC
    clear e a1 a2 a3 a4 a5 HP HT HC hA hC
    go_wp2_with (first
      | (refine wpList_cells_at rfl _ _ rfl ⟨w.heap.size, 4, none⟩ rfl (crtL a.par) _ px Tryd.underlying24 rfl crtInfo ?_)
      | (refine wpList_cells_at rfl _ _ rfl ⟨w.heap.size + 1, 4, none⟩ rfl (crtL b.par) _ py Tryd.underlying24 rfl crtInfo ?_)
      | (refine wpList_binop rfl _ _ _ _ _ rfl (crtC a.par) (crtC b.par) rfl rfl (by kernel_rfl) (HC2.out _) ?_))
    go_ret
    exact ⟨by rw [E.out]; rfl, hbw⟩
  · rw [a1, a2, a3, a4, a5, a6] at e
    have E := Lib.hid e
    obtain ⟨q1, _⟩ := beq_d a1
    obtain ⟨q2, _⟩ := beq_d a2
    obtain ⟨q3, _⟩ := beq_d a3
    obtain ⟨q4, _⟩ := beq_d a4
    have hC := HC.out
    rw [a5] at hC
    have HC2 := Lib.hid hC
    have hP := HP.out w0 _ hA a6
    clear e a1 a2 a3 a4 a5 a6 HP HT HC hA hC
    go_wp2_with (first
      | (refine wpList_cells_at rfl _ _ rfl ⟨w.heap.size, 4, none⟩ rfl (crtL a.par) _ px Tryd.underlying24 rfl crtInfo ?_)
      | (refine wpList_cells_at rfl _ _ rfl ⟨w.heap.size + 1, 4, none⟩ rfl (crtL b.par) _ py Tryd.underlying24 rfl crtInfo ?_)
      | (refine wpList_binop rfl _ _ _ _ _ rfl (crtC a.par) (crtC b.par) rfl rfl (by kernel_rfl) (HC2.out _) ?_)
      | (go_at_call 45; refine hP.mono ?_; unfold gives; rintro e w1 ⟨rfl, hb1⟩))
    go_ret
    exact ⟨by rw [E.out]; rfl, nxt hbw hb1⟩
  all_goals
    rw [a1, a2, a3, a4, a5, a6, a7] at e
    have E := Lib.hid e
    obtain ⟨q1, _⟩ := beq_d a1
    obtain ⟨q2, _⟩ := beq_d a2
    obtain ⟨q3, _⟩ := beq_d a3
    obtain ⟨q4, _⟩ := beq_d a4
    have hC := HC.out
    rw [a5] at hC
    have HC2 := Lib.hid hC
    have hP := HP.out w0 _ hA a6
    have HT2 := Lib.hid (fun W h => HT.out W _ h a7)
    clear e a1 a2 a3 a4 a5 a6 a7 HP HT HC hC
    go_wp2_with (first
      | (refine wpList_cells_at rfl _ _ rfl ⟨w.heap.size, 4, none⟩ rfl (crtL a.par) _ px Tryd.underlying24 rfl crtInfo ?_)
      | (refine wpList_cells_at rfl _ _ rfl ⟨w.heap.size + 1, 4, none⟩ rfl (crtL b.par) _ py Tryd.underlying24 rfl crtInfo ?_)
      | (refine wpList_binop rfl _ _ _ _ _ rfl (crtC a.par) (crtC b.par) rfl rfl (by kernel_rfl) (HC2.out _) ?_)
      | (go_at_call 45; refine hP.mono ?_; unfold gives; rintro e w1 ⟨rfl, hb1⟩; have hB := hA.below hb1; have z13 := hB.cells.1.2.2.2.2.2; have v13 := hB.cells.2.2.2.2.2.2)
      | (go_at_call 46; refine (HT2.out _ hB).mono ?_; unfold gives; rintro e w2 ⟨rfl, hb2⟩))
    go_ret
    exact ⟨by rw [E.out]; rfl, nxt hB.bw hb2⟩
end Go.Proofs.YtkjkkbionlmohaaDoor
