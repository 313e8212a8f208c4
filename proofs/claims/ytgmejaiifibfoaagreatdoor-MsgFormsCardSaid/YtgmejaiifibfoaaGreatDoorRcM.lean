/-
  May it be a message, by the document: what is held.
-/
import Derived.Test.YtgmejaiifibfoaaGreatDoorR4
import Derived.Test.YtgmejaiifibfoaaGreatDoorM4
import Derived.Test.YtgmejaiifibfoaaGreatDoorRefChkA
import Derived.Test.YtgmejaiifibfoaaGreatDoorM9
set_option linter.unusedSimpArgs false
set_option linter.unusedVariables false
set_option maxRecDepth 10000
namespace Go.Proofs.YtgmejaiifibfoaaGreatDoor
open Go.RowKit Go.Maps Go.Lib
open L3 (Blk Reads)
open L6 (Turn)
open L11 (Crt zeroC crtL crtC mayV okW okW_mk okW_not crtInfo crtC_ones wpQuiet_fn)

theorem build_mkR (k : Int) (w : World) : (Instr.build 34 #[(0, .int .i64 k)]).run Tryz.prog w = .ok (.agg (mesC { zeroM with kind := k } nS0 nS0 nS0)) w := run_build w _ _ _ (by kernel_rfl)
/-- What is held while a message is looked at by the document: its box, that of what its kind names, its certificate's. -/
structure RcM (w : World) (M C : Nat) (m : Mes) (P Q T : Value) (o : Mes) (P' Q' T' : Value) (W : World) : Prop where
  b1 : Blk W w.heap.size 34 (mesC m P Q T)
  b3 : Blk W M 34 (mesC o P' Q' T')
  b5 : Blk W C 24 (crtC m.cert)
  bw : Below w.heap.size w W
  hM : w.heap.size < M
  hC : M < C
section
variable {w W W' : World} {M C : Nat} {m o : Mes} {P Q T P' Q' T' : Value}
theorem RcM.below (h : RcM w M C m P Q T o P' Q' T' W) (hb : Below W.heap.size W W') : RcM w M C m P Q T o P' Q' T' W' := ⟨h.b1.below hb h.b1.lt, h.b3.below hb h.b3.lt, h.b5.below hb h.b5.lt, nxt h.bw hb, h.hM, h.hC⟩
theorem RcM.drew (h : RcM w M C m P Q T o P' Q' T' W) : RcM w M C m P Q T o P' Q' T' W.drew := h.below (Below.refl _ W).drew
theorem RcM.turn (h : RcM w M C m P Q T o P' Q' T' W) (ht : Turn (fun k => k = M) W W') {o2 : Mes} {P2 Q2 T2 : Value} (hr : Blk W' M 34 (mesC o2 P2 Q2 T2)) : RcM w M C m P Q T o2 P2 Q2 T2 W' :=
  ⟨ht.blk h.b1 (by have := h.hM; omega), hr, ht.blk h.b5 (by have := h.hC; omega), h.bw.trans (ht.below (fun i e => by have := h.hM; omega) h.bw.size), h.hM, h.hC⟩
theorem RcM.blk (h : RcM w M C m P Q T o P' Q' T' W) (b : Blo) (Q2 T2 : Value) : RcM w M C m P Q T { o with block := b } P' Q2 T2 (W.setCells M 24 (bloC b Q2 T2).toList) :=
  h.turn (turn_cellsC _ _ _ _) (by have := blk_over (bloC b Q2 T2).toList 24 h.b3; rw [over_blo] at this; exact this)
theorem RcM.crt (h : RcM w M C m P Q T o P' Q' T' W) (c : Crt) : RcM w M C m P Q T { o with cert := c } P' Q' T' (W.setCells M 5 (crtC c).toList) :=
  h.turn (turn_cellsC _ _ _ _) (by have := blk_over (crtC c).toList 5 h.b3; rw [over_crt] at this; exact this)
theorem RcM.tmo (h : RcM w M C m P Q T o P' Q' T' W) (t : Tmo) : RcM w M C m P Q T { o with tm := t } P' Q' T' (W.setCells M 13 (tmC t).toList) :=
  h.turn (turn_cellsC _ _ _ _) (by have := blk_over (tmC t).toList 13 h.b3; rw [over_tmo] at this; exact this)
theorem RcM.txx (h : RcM w M C m P Q T o P' Q' T' W) (t : Txx) : RcM w M C m P Q T { o with tx := t } P' Q' T' (W.setCells M 38 (txC t).toList) :=
  h.turn (turn_cellsC _ _ _ _) (by have := blk_over (txC t).toList 38 h.b3; rw [over_tx] at this; exact this)
theorem RcM.cell (h : RcM w M C m P Q T o P' Q' T' W) (i : Nat) (u : Value) {o2 : Mes} {P2 Q2 T2 : Value} (e : (mesC o P' Q' T').setIfInBounds i u = mesC o2 P2 Q2 T2) : RcM w M C m P Q T o2 P2 Q2 T2 (W.setCell ⟨M, i, none⟩ u) :=
  h.turn (turn_cell _ _ _ _) (by have := h.b3.set_ i u; rw [e] at this; exact this)
end
theorem signR_is (n : Int) (b : Bool) (w : World) (h : okW n 0 9 = b) : Calls Tryz.prog 26 #[.int .i64 n] w fun e w' => e = .returned (.bool b) ∧ w = w' := by
  subst h
  by_cases h0 : 0 ≤ n
  · by_cases h1 : n ≤ 9
    · have hk := okW_mk h0 h1
      go_enter Tryz.func26, Tryz.ntmps26
      go_wp2
      go_ret
      exact ⟨congrArg (fun b => Ending.returned (.bool b)) hk.symm, rfl⟩
    · have hk := okW_not (n := n) (lo := 0) (hi := 9) (by omega)
      go_enter Tryz.func26, Tryz.ntmps26
      go_wp2
      go_ret
      exact ⟨rfl, rfl⟩
  · have hk := okW_not (n := n) (lo := 0) (hi := 9) (by omega)
    go_enter Tryz.func26, Tryz.ntmps26
    go_wp2
    go_ret
    exact ⟨rfl, rfl⟩
theorem viewR_is (n : Int) (b : Bool) (w : World) (h : okW n 1 1048576 = b) : Calls Tryz.prog 27 #[.int .i64 n] w fun e w' => e = .returned (.bool b) ∧ w = w' := by
  subst h
  by_cases h0 : 1 ≤ n
  · by_cases h1 : n ≤ 1048576
    · have hk := okW_mk h0 h1
      go_enter Tryz.func27, Tryz.ntmps27
      go_wp2
      go_ret
      exact ⟨congrArg (fun b => Ending.returned (.bool b)) hk.symm, rfl⟩
    · have hk := okW_not (n := n) (lo := 1) (hi := 1048576) (by omega)
      go_enter Tryz.func27, Tryz.ntmps27
      go_wp2
      go_ret
      exact ⟨rfl, rfl⟩
  · have hk := okW_not (n := n) (lo := 1) (hi := 1048576) (by omega)
    go_enter Tryz.func27, Tryz.ntmps27
    go_wp2
    go_ret
    exact ⟨rfl, rfl⟩
theorem fourB (a b c d : Bool) : a = false ∨ (a = true ∧ b = false) ∨ (a = true ∧ b = true ∧ c = false) ∨ (a = true ∧ b = true ∧ c = true ∧ d = false) ∨ (a = true ∧ b = true ∧ c = true ∧ d = true) := by
  cases a <;> cases b <;> cases c <;> cases d <;> simp
theorem list_cnt (n : Nat) (w : World) (hn : n < 4294967296) : Calls Tryz.prog 24 #[.int .u32 n] w fun e w' => ∃ A c, e = .returned (.slice A (L4.cnt n) c) ∧ Below w.heap.size w w' := by
  refine (L4.reflist_any n w hn).mono ?_
  rintro e w' ⟨v, rfl, ho⟩
  obtain ⟨A, c, rfl, _⟩ := ho.form
  exact ⟨A, c, by rw [L4.bts_length], ho.2.1⟩
end Go.Proofs.YtgmejaiifibfoaaGreatDoor
