/-
  Which certificates may stand where, and which timeouts may be: by the code and by the document.
-/
import Derived.Test.YtkjkkbionlmohaaDoorBv
set_option linter.unusedSimpArgs false
set_option linter.unusedVariables false
set_option maxRecDepth 10000
namespace Go.Proofs.YtkjkkbionlmohaaDoor
open Go.RowKit Go.Maps Go.Lib
open L3 (Blk Reads)
open L11 (Crt zeroC crtL crtC mayV bytesV Stm stmC okW okW_mk okW_not crtInfo crtC_ones endV)

/-! Callees of layer 11 -/
theorem c_check_ok (c : Crt) (w : World) (h : c.wf) (hm : mayV c = true) : Calls Tryd.prog 51 #[.agg (crtC c)] w (gives (.int .i64 0) w) := by
  have := L11.check_any c w h; rw [hm] at this; exact this
theorem c_check_no (c : Crt) (w : World) (h : c.wf) (hm : mayV c = false) : Calls Tryd.prog 51 #[.agg (crtC c)] w (gives (.int .i64 110) w) := by
  have := L11.check_any c w h; rw [hm] at this; exact this
theorem c_end (c : Crt) (b : Bool) (w : World) (hb : endV c = b) : Calls Tryd.prog 52 #[.agg (crtC c)] w (gives (.bool b) w) := by
  have := L11.endorsed_any c w; rw [hb] at this; exact this
theorem c_refcert (c : Crt) (b : Bool) (w : World) (h : c.wf) (hb : mayV c = b) : Calls Tryd.prog 36 #[.agg (crtC c)] w (gives (.bool b) w) := by
  have := L11.refcheck_any c w h; rw [hb] at this; exact this

/-! Numbers -/
theorem within_any (n lo hi : Int) (w : World) : Calls Tryd.prog 24 #[.int .i64 n, .int .i64 lo, .int .i64 hi] w fun e w' => e = .returned (.bool (okW n lo hi)) ∧ w = w' := by
  by_cases h0 : lo ≤ n
  · by_cases h1 : n ≤ hi
    · have hk := okW_mk h0 h1
      go_enter Tryd.func24, Tryd.ntmps24
      go_wp2
      go_ret
      exact ⟨congrArg (fun b => Ending.returned (.bool b)) hk.symm, rfl⟩
    · have hk := okW_not (n := n) (lo := lo) (hi := hi) (by omega)
      go_enter Tryd.func24, Tryd.ntmps24
      go_wp2
      go_ret
      exact ⟨rfl, rfl⟩
  · have hk := okW_not (n := n) (lo := lo) (hi := hi) (by omega)
    go_enter Tryd.func24, Tryd.ntmps24
    go_wp2
    go_ret
    exact ⟨rfl, rfl⟩
theorem within_is (n lo hi : Int) (b : Bool) (w : World) (h : okW n lo hi = b) : Calls Tryd.prog 24 #[.int .i64 n, .int .i64 lo, .int .i64 hi] w fun e w' => e = .returned (.bool b) ∧ w = w' := by
  have := within_any n lo hi w; rw [h] at this; exact this
theorem aview_is (n : Int) (b : Bool) (w : World) (h : okW n 1 1048576 = b) : Calls Tryd.prog 22 #[.int .i64 n] w fun e w' => e = .returned (.bool b) ∧ w = w' := by
  go_enter Tryd.func22, Tryd.ntmps22
  go_wp2_with (go_at_call 24; refine (within_is _ _ _ _ _ h).mono ?_; rintro e w1 ⟨rfl, rfl⟩)
  go_ret
  exact ⟨rfl, rfl⟩
theorem arep_is (n : Int) (b : Bool) (w : World) (h : okW n 0 9 = b) : Calls Tryd.prog 23 #[.int .i64 n] w fun e w' => e = .returned (.bool b) ∧ w = w' := by
  go_enter Tryd.func23, Tryd.ntmps23
  go_wp2_with (go_at_call 24; refine (within_is _ _ _ _ _ h).mono ?_; rintro e w1 ⟨rfl, rfl⟩)
  go_ret
  exact ⟨rfl, rfl⟩

theorem end_two {c : Crt} (hk : c.kind = 2) : endV c = !decide (c.co = 0) := by unfold L11.endV; rw [decide_eq_true hk]; rfl
set_option maxHeartbeats 1000000 in
set_option maxRecDepth 100000 in
theorem known_any (c : Crt) (v : Int) (w : World) (h : c.wf) : Calls Tryd.prog 41 #[.agg (crtC c), .int .i64 v] w (gives (.bool (openV c v)) w) := by
  have hb0 : Below w.heap.size w (w.alloc (.cells (crtC c) 24)) := L11.below_box _ c
  have k0 := L11.box_new w 24 c
  have B0 := Lib.hid (fun w1 => @L11.box_at w w1 24 c)
  rcases (Bool.eq_false_or_eq_true (mayV c)).symm with a | a
  · have hm := fun W => c_check_no c W h a
    have e : openV c v = false := by unfold openV; rw [a]; rfl
    rw [e]
    clear e a h
    go_enter Tryd.func41, Tryd.ntmps41
    go_wp2_with (first
      | (refine wpList_row_at rfl _ _ rfl w.heap.size rfl _ _ _ _ k0 Tryd.underlying24 rfl crtInfo ?_)
      | (go_at_call 51; refine (hm _).mono ?_; unfold gives; rintro e w1 ⟨rfl, hb1⟩))
    go_ret
    exact ⟨rfl, nxt hb0 hb1⟩
  have hm := fun W => c_check_ok c W h a
  have K0 := Lib.hid (fun w1 (hb : Below (w.alloc (.cells (crtC c) 24)).heap.size (w.alloc (.cells (crtC c) 24)) w1) => k0.below hb (by simp))
  by_cases hk : c.kind = 2
  · have hk' : (c.kind == 2) = true := by simpa using hk
    have he := fun W => c_end c _ W (end_two hk)
    have e : openV c v = (!decide (c.co = 0) && decide (c.view < v)) := by unfold openV; rw [a, if_pos hk]; rfl
    rw [e]
    clear e a h hk
    obtain ⟨co, hco⟩ : ∃ b, b = !decide (c.co = 0) := ⟨_, rfl⟩
    rw [← hco] at he ⊢
    have HE := Lib.hid he
    clear he hco
    by_cases hv : c.view < v
    all_goals
      cases co
      all_goals
        go_enter Tryd.func41, Tryd.ntmps41
        go_upto_region 3 with (first
          | (refine wpList_row_at rfl _ _ rfl w.heap.size rfl _ _ _ _ k0 Tryd.underlying24 rfl crtInfo ?_)
          | (go_at_call 51; refine (hm _).mono ?_; unfold gives; rintro e w1 ⟨rfl, hb1⟩; obtain ⟨d0, d1, d2, d3, d4, d5, d6, d7⟩ := B0.out _ hb1; have k1 := K0.out _ hb1))
        go_wp2_with (first
          | (refine wpList_row_at rfl _ _ rfl w.heap.size rfl _ _ _ _ k1 Tryd.underlying24 rfl crtInfo ?_)
          | (go_at_call 52; refine (HE.out _).mono ?_; unfold gives; rintro e w2 ⟨rfl, hb2⟩; obtain ⟨f0, f1, f2, f3, f4, f5, f6, f7⟩ := B0.out _ (nxt hb1 hb2)))
        go_ret
        refine ⟨?_, nxt hb0 (nxt hb1 hb2)⟩
        first | rfl | simp [hv]
  · have hk' : (c.kind == 2) = false := by simpa using hk
    have e : openV c v = decide (c.view ≤ v) := by unfold openV; rw [a, if_neg hk]; rfl
    rw [e]
    clear e a h hk
    by_cases hv : c.view ≤ v
    all_goals
      go_enter Tryd.func41, Tryd.ntmps41
      go_wp2_with (first
        | (refine wpList_row_at rfl _ _ rfl w.heap.size rfl _ _ _ _ k0 Tryd.underlying24 rfl crtInfo ?_)
        | (go_at_call 51; refine (hm _).mono ?_; unfold gives; rintro e w1 ⟨rfl, hb1⟩; obtain ⟨d0, d1, d2, d3, d4, d5, d6, d7⟩ := B0.out _ hb1))
      go_ret
      refine ⟨?_, nxt hb0 hb1⟩
      first | rfl | simp [hv]
theorem known_is (c : Crt) (v : Int) (b : Bool) (w : World) (h : c.wf) (hb : openV c v = b) : Calls Tryd.prog 41 #[.agg (crtC c), .int .i64 v] w (gives (.bool b) w) := by
  have := known_any c v w h; rw [hb] at this; exact this
set_option maxHeartbeats 1000000 in
set_option maxRecDepth 100000 in
theorem refopen_any (c : Crt) (v : Int) (w : World) (h : c.wf) : Calls Tryd.prog 37 #[.agg (crtC c), .int .i64 v] w (gives (.bool (openV c v)) w) := by
  have hb0 : Below w.heap.size w (w.alloc (.cells (crtC c) 24)) := L11.below_box _ c
  have k0 := L11.box_new w 24 c
  have B0 := Lib.hid (fun w1 => @L11.box_at w w1 24 c)
  rcases (Bool.eq_false_or_eq_true (mayV c)).symm with a | a
  · have hm := fun W => c_refcert c _ W h a
    have e : openV c v = false := by unfold openV; rw [a]; rfl
    rw [e]
    clear e a h
    go_enter Tryd.func37, Tryd.ntmps37
    go_wp2_with (first
      | (refine wpList_row_at rfl _ _ rfl w.heap.size rfl _ _ _ _ k0 Tryd.underlying24 rfl crtInfo ?_)
      | (go_at_call 36; refine (hm _).mono ?_; unfold gives; rintro e w1 ⟨rfl, hb1⟩))
    go_ret
    exact ⟨rfl, nxt hb0 hb1⟩
  have hm := fun W => c_refcert c _ W h a
  by_cases hk : c.kind = 2
  · have hk' : (c.kind == 2) = true := by simpa using hk
    have e : openV c v = (!decide (c.co = 0) && decide (c.view < v)) := by unfold openV; rw [a, if_pos hk]; rfl
    rw [e]
    clear e a h hk
    rcases Bool.eq_false_or_eq_true (!decide (c.co = 0)) with b | b
    case' inl => obtain ⟨f1, f2⟩ := L11.nat_no0 b
    case' inr => obtain ⟨f1, f2⟩ := L11.nat_is0 b
    all_goals
      rw [b]
      clear b
      by_cases hv : c.view < v
      all_goals
        go_enter Tryd.func37, Tryd.ntmps37
        go_wp2_with (first
          | (refine wpList_row_at rfl _ _ rfl w.heap.size rfl _ _ _ _ k0 Tryd.underlying24 rfl crtInfo ?_)
          | (go_at_call 36; refine (hm _).mono ?_; unfold gives; rintro e w1 ⟨rfl, hb1⟩; obtain ⟨d0, d1, d2, d3, d4, d5, d6, d7⟩ := B0.out _ hb1))
        go_ret
        refine ⟨?_, nxt hb0 hb1⟩
        first | rfl | simp [hv]
  · have hk' : (c.kind == 2) = false := by simpa using hk
    have e : openV c v = decide (c.view ≤ v) := by unfold openV; rw [a, if_neg hk]; rfl
    rw [e]
    clear e a h hk
    by_cases hv : c.view ≤ v
    all_goals
      go_enter Tryd.func37, Tryd.ntmps37
      go_wp2_with (first
        | (refine wpList_row_at rfl _ _ rfl w.heap.size rfl _ _ _ _ k0 Tryd.underlying24 rfl crtInfo ?_)
        | (go_at_call 36; refine (hm _).mono ?_; unfold gives; rintro e w1 ⟨rfl, hb1⟩; obtain ⟨d0, d1, d2, d3, d4, d5, d6, d7⟩ := B0.out _ hb1))
      go_ret
      refine ⟨?_, nxt hb0 hb1⟩
      first | rfl | simp [hv]
theorem refopen_is (c : Crt) (v : Int) (b : Bool) (w : World) (h : c.wf) (hb : openV c v = b) : Calls Tryd.prog 37 #[.agg (crtC c), .int .i64 v] w (gives (.bool b) w) := by
  have := refopen_any c v w h; rw [hb] at this; exact this
theorem three (a b c : Bool) : a = false ∨ (a = true ∧ b = false) ∨ (a = true ∧ b = true ∧ c = false) ∨ (a = true ∧ b = true ∧ c = true) := by
  cases a <;> cases b <;> cases c <;> simp
theorem tmo_box {w : World} {ty : TypeId} {t : Tmo} : (w.alloc (.cells (tmC t) ty)).cell? ⟨w.heap.size, 0, none⟩ = some (.int .i64 t.signer) ∧ (w.alloc (.cells (tmC t) ty)).cell? ⟨w.heap.size, 1, none⟩ = some (.int .i64 t.view) ∧ (∀ j u, (crtL t.high)[j]? = some u → (w.alloc (.cells (tmC t) ty)).cell? ((⟨w.heap.size, 2, none⟩ : Addr).add j) = some u) :=
  ⟨(tmo_new w ty t).cell 0, (tmo_new w ty t).cell 1, sub_cells (tmo_new w ty t) (high_at t)⟩
set_option maxHeartbeats 1000000 in
set_option maxRecDepth 100000 in
theorem timeout_any (t : Tmo) (w : World) (h : t.wf) : Calls Tryd.prog 14 #[.agg (tmC t)] w (gives (.int .i64 (errI (tmoV t) 121)) w) := by
  have hb0 : Below w.heap.size w (w.alloc (.cells (tmC t) 43)) := below_new _ _
  obtain ⟨c0, c1, c2⟩ := tmo_box (w := w) (ty := 43) (t := t)
  have e : tmoV t = (okW t.signer 0 9 && okW t.view 1 1048576 && openV t.high t.view) := rfl
  rcases three (okW t.signer 0 9) (okW t.view 1 1048576) (openV t.high t.view) with a | ⟨a, b⟩ | ⟨a, b, d⟩ | ⟨a, b, d⟩
  · have E : Hid (tmoV t = false) := Lib.hid (by rw [e, a]; rfl)
    clear e h
    go_enter Tryd.func14, Tryd.ntmps14
    go_wp2_with (go_at_call 23; refine (arep_is _ _ _ a).mono ?_; rintro e w1 ⟨rfl, rfl⟩)
    go_ret
    exact ⟨by rw [E.out]; rfl, hb0⟩
  · have E : Hid (tmoV t = false) := Lib.hid (by rw [e, a, b]; rfl)
    clear e h
    go_enter Tryd.func14, Tryd.ntmps14
    go_wp2_with (first
      | (go_at_call 23; refine (arep_is _ _ _ a).mono ?_; rintro e w1 ⟨rfl, rfl⟩)
      | (go_at_call 22; refine (aview_is _ _ _ b).mono ?_; rintro e w1 ⟨rfl, rfl⟩))
    go_ret
    exact ⟨by rw [E.out]; rfl, hb0⟩
  all_goals
    have e2 : tmoV t = openV t.high t.view := by rw [e, a, b]; rfl
    have E := Lib.hid (e2.trans d)
    clear e2
    have hk := fun W => known_is t.high t.view _ W h.2.2 d
    clear e h
    go_enter Tryd.func14, Tryd.ntmps14
    go_wp2_with (first
      | (go_at_call 23; refine (arep_is _ _ _ a).mono ?_; rintro e w1 ⟨rfl, rfl⟩)
      | (go_at_call 22; refine (aview_is _ _ _ b).mono ?_; rintro e w1 ⟨rfl, rfl⟩)
      | (refine wpList_cells_at rfl _ _ rfl ⟨w.heap.size, 2, none⟩ rfl (crtL t.high) _ c2 Tryd.underlying24 rfl crtInfo ?_)
      | (go_at_call 41; refine (hk _).mono ?_; unfold gives; rintro e w2 ⟨rfl, hb2⟩))
    go_ret
    exact ⟨by rw [E.out]; rfl, nxt hb0 hb2⟩
theorem timeout_is (t : Tmo) (b : Bool) (w : World) (h : t.wf) (hb : tmoV t = b) : Calls Tryd.prog 14 #[.agg (tmC t)] w (gives (.int .i64 (errI b 121)) w) := by
  have := timeout_any t w h; rw [hb] at this; exact this
end Go.Proofs.YtkjkkbionlmohaaDoor
