/-
  BlockTimeouts, walked: which timeouts may be, by the code and by the document; what was signed for them.
-/
import Derived.Test.YtgmejaiifibfoaaGreatDoorB4
import Derived.Test.YtgmejaiifibfoaaGreatDoorB3
set_option linter.unusedSimpArgs false
set_option linter.unusedVariables false
set_option maxRecDepth 10000
namespace Go.Proofs.YtgmejaiifibfoaaGreatDoor
open Go.RowKit Go.Maps Go.Lib
open L3 (Blk Reads)
open L11 (Crt zeroC crtL crtC mayV okW crtInfo crtC_ones wpQuiet_fn)

theorem five_b (a b c d e : Bool) : a = false ∨ (a = true ∧ b = false) ∨ (a = true ∧ b = true ∧ c = false) ∨ (a = true ∧ b = true ∧ c = true ∧ d = false) ∨ (a = true ∧ b = true ∧ c = true ∧ d = true ∧ e = false) ∨ (a = true ∧ b = true ∧ c = true ∧ d = true ∧ e = true) := by
  cases a <;> cases b <;> cases c <;> cases d <;> cases e <;> simp
set_option maxHeartbeats 2000000 in
set_option maxRecDepth 100000 in
theorem reftm_any (t : Tmo) (w : World) (h : t.wf) : Calls Tryz.prog 25 #[.agg (tmC t)] w (gives (.bool (tmoV t)) w) := by
  have hb0 : Below w.heap.size w (w.alloc (.cells (tmC t) 26)) := below_new _ _
  obtain ⟨c0, c1, c2⟩ := tmo_box (w := w) (ty := 26) (t := t)
  have e : tmoV t = (decide (0 ≤ t.signer) && decide (t.signer ≤ 9) && decide (1 ≤ t.view) && decide (t.view ≤ 1048576) && openV t.high t.view) := by
    unfold tmoV L11.okW
    simp only [Bool.decide_and, Bool.and_assoc]
  rcases five_b (decide (0 ≤ t.signer)) (decide (t.signer ≤ 9)) (decide (1 ≤ t.view)) (decide (t.view ≤ 1048576)) (openV t.high t.view) with a1 | ⟨a1, a2⟩ | ⟨a1, a2, a3⟩ | ⟨a1, a2, a3, a4⟩ | ⟨a1, a2, a3, a4, a5⟩ | ⟨a1, a2, a3, a4, a5⟩
  · have E := Lib.hid e
    have q1 := of_decide_eq_false a1
    rw [a1] at e
    have E2 := Lib.hid e
    clear e E a1
    go_enter Tryz.func25, Tryz.ntmps25
    go_wp2
    go_ret
    exact ⟨by rw [E2.out]; rfl, hb0⟩
  · rw [a1, a2] at e
    have q1 := of_decide_eq_true a1
    have q2 := of_decide_eq_false a2
    have E2 := Lib.hid e
    clear e a1 a2
    go_enter Tryz.func25, Tryz.ntmps25
    go_wp2
    go_ret
    exact ⟨by rw [E2.out]; rfl, hb0⟩
  · rw [a1, a2, a3] at e
    have q1 := of_decide_eq_true a1
    have q2 := of_decide_eq_true a2
    have q3 := of_decide_eq_false a3
    have E2 := Lib.hid e
    clear e a1 a2 a3
    go_enter Tryz.func25, Tryz.ntmps25
    go_wp2
    go_ret
    exact ⟨by rw [E2.out]; rfl, hb0⟩
  · rw [a1, a2, a3, a4] at e
    have q1 := of_decide_eq_true a1
    have q2 := of_decide_eq_true a2
    have q3 := of_decide_eq_true a3
    have q4 := of_decide_eq_false a4
    have E2 := Lib.hid e
    clear e a1 a2 a3 a4
    go_enter Tryz.func25, Tryz.ntmps25
    go_wp2
    go_ret
    exact ⟨by rw [E2.out]; rfl, hb0⟩
  all_goals
    have hk := fun W => refopen_is t.high t.view _ W h.2.2 a5
    rw [a1, a2, a3, a4, a5] at e
    have q1 := of_decide_eq_true a1
    have q2 := of_decide_eq_true a2
    have q3 := of_decide_eq_true a3
    have q4 := of_decide_eq_true a4
    have E2 := Lib.hid e
    clear e a1 a2 a3 a4 a5 h
    go_enter Tryz.func25, Tryz.ntmps25
    go_wp2_with (first
      | (refine wpList_cells_at rfl _ _ rfl ⟨w.heap.size, 2, none⟩ rfl (crtL t.high) _ c2 Tryz.underlying24 rfl crtInfo ?_)
      | (go_at_call 58; refine (hk _).mono ?_; unfold gives; rintro e w2 ⟨rfl, hb2⟩))
    go_ret
    exact ⟨by rw [E2.out]; rfl, nxt hb0 hb2⟩
/-- Two Bools, held against each other. -/
theorem wpQuiet_beq {P : Program} {ops : Array Oper} {S : World → Prop} {o : Oper} {rest : List Oper} {a : Act} {Qa : Act → Prop} (hg : Region.wanted o (yielded ops a.tmps) = true) (t : TypeId) (x y : Operand) (u : TypeId) (ho : o.op = .binOp .eql t x y u) (p q r : Bool)
    (hx : a.eval x = .bool p) (hy : a.eval y = .bool q) (ht : P.underlying t = some .bool) (hr : (p == q) = r)
    (h : wpQuiet P ops (fun w' => ∃ x : WorldIn S, w' = x.w) Qa rest (a.put o.dst (.bool r))) : wpQuiet P ops (fun w' => ∃ x : WorldIn S, w' = x.w) Qa (o :: rest) a := by
  refine wpQuiet_value hg (fun z => ?_) h
  simp [execOp, ho, hx, hy, eqGuard, run_eql_bool z.w t p q ht, hr]
/-- What is held while a timeout is looked at. -/
def TmAt (w : World) (t : Tmo) (W : World) : Prop := Blk W w.heap.size 26 (tmC t) ∧ Below w.heap.size w W
theorem TmAt.below {w W W' : World} {t : Tmo} (h : TmAt w t W) (hb : Below W.heap.size W W') : TmAt w t W' := ⟨h.1.below hb h.1.lt, nxt h.2 hb⟩
theorem TmAt.drew {w W : World} {t : Tmo} (h : TmAt w t W) : TmAt w t W.drew := ⟨h.1.drew, h.2.drew⟩
end Go.Proofs.YtgmejaiifibfoaaGreatDoor
