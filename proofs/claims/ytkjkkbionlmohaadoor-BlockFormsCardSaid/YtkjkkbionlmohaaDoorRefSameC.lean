/-
  Are two blocks the same: the cases where an early field differs.
-/
import Derived.Test.YtkjkkbionlmohaaDoorRefSameB
set_option linter.unusedSimpArgs false
set_option linter.unusedVariables false
set_option maxRecDepth 10000
namespace Go.Proofs.YtkjkkbionlmohaaDoor
open Go.RowKit Go.Lib
open L3 (Blk Reads)
open L11 (Crt zeroC crtL crtC mayV okW crtInfo crtC_ones eqlC neqC wpList_binop wpQuiet_fn)

theorem Rd.at_ {α : Type} {f : α → List Value} {k : Nat} {w : World} {ad : Addr} {L : List α} (h : Rd f k w (some ad) L) {i : Nat} (hi : i < L.length) : ∀ j u, (f L[i])[j]? = some u → w.cell? ((ad.add (i * k)).add j) = some u := fun j u hj => by
  obtain ⟨ad', e, _, hc⟩ := h i hi
  injection e with e
  subst e
  exact hc j u hj
theorem len_ne {n m : Nat} {r : Bool} (h : decide (n = m) = r) : (((n : Nat) : Int) == ((m : Nat) : Int)) = r ∧ (((n : Nat) : Int) != ((m : Nat) : Int)) = !r := by
  have e : (((n : Nat) : Int) == ((m : Nat) : Int)) = decide (n = m) := by rw [Bool.eq_iff_iff]; simp; omega
  exact ⟨e.trans h, by show (!(((n : Nat) : Int) == ((m : Nat) : Int))) = !r; rw [e, h]⟩
theorem same_parts (a b : Blo) : sameV a b = (decide (a.view = b.view) && (decide (a.round = b.round) && (decide (a.height = b.height) && (decide (a.author = b.author) && (decide (a.par = b.par) && (decide (a.proof.length = b.proof.length) && (decide (a.txs = b.txs) && decide (a.proof = b.proof)))))))) := by
  unfold sameV
  by_cases h : a.proof = b.proof
  · rw [h]; simp
  · rw [decide_eq_false h]; simp
set_option maxHeartbeats 4000000 in
set_option maxRecDepth 100000 in
theorem refsame_1 (a b : Blo) (A : Option Addr) (c : Nat) (B : Option Addr) (d : Nat) (A' : Option Addr) (c' : Nat) (B' : Option Addr) (d' : Nat) (w : World) (ha : a.wf) (hb : b.wf)
    (pa : Rd tmL 10 w A a.proof) (ta : Rd txL 7 w B a.txs) (pb : Rd tmL 10 w A' b.proof) (tb : Rd txL 7 w B' b.txs)
    (a1 : decide (a.view = b.view) = false) :
    Calls Tryd.prog 20 #[.agg (bloC a (.slice A a.proof.length c) (.slice B a.txs.length d)), .agg (bloC b (.slice A' b.proof.length c') (.slice B' b.txs.length d'))] w (gives (.bool (sameV a b)) w) := by
  replace a1 := Lib.hid a1
  have F0 := Lib.hid (twoB_mk (c := c) (d := d) (c' := c') (d' := d') pa ta pb tb)
  have HT := Lib.hid (fun W r (h : TwoB w a b A c B d A' c' B' d' W) hr => refsame10_is B d a.txs B' d' b.txs r W ha.txs hb.txs h.ta h.tb (by have := ha.nt; omega) (by have := hb.nt; omega) hr)
  have HC := Lib.hid (fun W => neqC ha.par hb.par W)
  have HWF := Lib.hid (And.intro ha.proof hb.proof)
  have hnp := ha.np
  have e := same_parts a b
  clear ha hb pa ta pb tb
  go_enter Tryd.func20, Tryd.ntmps20
  go_upto_region 1 with fail
  refine name_world (fun w0 hw0 => ?_)
  have hA : TwoB w a b A c B d A' c' B' d' w0 := by rw [hw0]; exact F0.out
  clear hw0 F0
  obtain ⟨⟨x0, x1, x2, x3, x12, x13⟩, y0, y1, y2, y3, y12, y13⟩ := hA.cells
  obtain ⟨px, py⟩ := hA.pars
  have hbw := hA.bw
  replace a1 := a1.out
  rw [a1] at e
  have E := Lib.hid e
  obtain ⟨q1, _⟩ := beq_d a1
  clear e a1 HT HC hA HWF
  go_wp2
  go_ret
  exact ⟨by rw [E.out]; rfl, hbw⟩
set_option maxHeartbeats 4000000 in
set_option maxRecDepth 100000 in
theorem refsame_2 (a b : Blo) (A : Option Addr) (c : Nat) (B : Option Addr) (d : Nat) (A' : Option Addr) (c' : Nat) (B' : Option Addr) (d' : Nat) (w : World) (ha : a.wf) (hb : b.wf)
    (pa : Rd tmL 10 w A a.proof) (ta : Rd txL 7 w B a.txs) (pb : Rd tmL 10 w A' b.proof) (tb : Rd txL 7 w B' b.txs)
    (a1 : decide (a.view = b.view) = true) (a2 : decide (a.round = b.round) = false) :
    Calls Tryd.prog 20 #[.agg (bloC a (.slice A a.proof.length c) (.slice B a.txs.length d)), .agg (bloC b (.slice A' b.proof.length c') (.slice B' b.txs.length d'))] w (gives (.bool (sameV a b)) w) := by
  replace a1 := Lib.hid a1
  replace a2 := Lib.hid a2
  have F0 := Lib.hid (twoB_mk (c := c) (d := d) (c' := c') (d' := d') pa ta pb tb)
  have HT := Lib.hid (fun W r (h : TwoB w a b A c B d A' c' B' d' W) hr => refsame10_is B d a.txs B' d' b.txs r W ha.txs hb.txs h.ta h.tb (by have := ha.nt; omega) (by have := hb.nt; omega) hr)
  have HC := Lib.hid (fun W => neqC ha.par hb.par W)
  have HWF := Lib.hid (And.intro ha.proof hb.proof)
  have hnp := ha.np
  have e := same_parts a b
  clear ha hb pa ta pb tb
  go_enter Tryd.func20, Tryd.ntmps20
  go_upto_region 1 with fail
  refine name_world (fun w0 hw0 => ?_)
  have hA : TwoB w a b A c B d A' c' B' d' w0 := by rw [hw0]; exact F0.out
  clear hw0 F0
  obtain ⟨⟨x0, x1, x2, x3, x12, x13⟩, y0, y1, y2, y3, y12, y13⟩ := hA.cells
  obtain ⟨px, py⟩ := hA.pars
  have hbw := hA.bw
  replace a1 := a1.out
  replace a2 := a2.out
  rw [a1, a2] at e
  have E := Lib.hid e
  obtain ⟨q1, _⟩ := beq_d a1
  obtain ⟨q2, _⟩ := beq_d a2
  clear e a1 a2 HT HC hA HWF
  go_wp2
  go_ret
  exact ⟨by rw [E.out]; rfl, hbw⟩
set_option maxHeartbeats 4000000 in
set_option maxRecDepth 100000 in
theorem refsame_3 (a b : Blo) (A : Option Addr) (c : Nat) (B : Option Addr) (d : Nat) (A' : Option Addr) (c' : Nat) (B' : Option Addr) (d' : Nat) (w : World) (ha : a.wf) (hb : b.wf)
    (pa : Rd tmL 10 w A a.proof) (ta : Rd txL 7 w B a.txs) (pb : Rd tmL 10 w A' b.proof) (tb : Rd txL 7 w B' b.txs)
    (a1 : decide (a.view = b.view) = true) (a2 : decide (a.round = b.round) = true) (a3 : decide (a.height = b.height) = false) :
    Calls Tryd.prog 20 #[.agg (bloC a (.slice A a.proof.length c) (.slice B a.txs.length d)), .agg (bloC b (.slice A' b.proof.length c') (.slice B' b.txs.length d'))] w (gives (.bool (sameV a b)) w) := by
  replace a1 := Lib.hid a1
  replace a2 := Lib.hid a2
  replace a3 := Lib.hid a3
  have F0 := Lib.hid (twoB_mk (c := c) (d := d) (c' := c') (d' := d') pa ta pb tb)
  have HT := Lib.hid (fun W r (h : TwoB w a b A c B d A' c' B' d' W) hr => refsame10_is B d a.txs B' d' b.txs r W ha.txs hb.txs h.ta h.tb (by have := ha.nt; omega) (by have := hb.nt; omega) hr)
  have HC := Lib.hid (fun W => neqC ha.par hb.par W)
  have HWF := Lib.hid (And.intro ha.proof hb.proof)
  have hnp := ha.np
  have e := same_parts a b
  clear ha hb pa ta pb tb
  go_enter Tryd.func20, Tryd.ntmps20
  go_upto_region 1 with fail
  refine name_world (fun w0 hw0 => ?_)
  have hA : TwoB w a b A c B d A' c' B' d' w0 := by rw [hw0]; exact F0.out
  clear hw0 F0
  obtain ⟨⟨x0, x1, x2, x3, x12, x13⟩, y0, y1, y2, y3, y12, y13⟩ := hA.cells
  obtain ⟨px, py⟩ := hA.pars
  have hbw := hA.bw
  replace a1 := a1.out
  replace a2 := a2.out
  replace a3 := a3.out
  rw [a1, a2, a3] at e
  have E := Lib.hid e
  obtain ⟨q1, _⟩ := beq_d a1
  obtain ⟨q2, _⟩ := beq_d a2
  obtain ⟨q3, _⟩ := beq_d a3
  clear e a1 a2 a3 HT HC hA HWF
  go_wp2
  go_ret
  exact ⟨by rw [E.out]; rfl, hbw⟩
set_option maxHeartbeats 4000000 in
set_option maxRecDepth 100000 in
theorem refsame_4 (a b : Blo) (A : Option Addr) (c : Nat) (B : Option Addr) (d : Nat) (A' : Option Addr) (c' : Nat) (B' : Option Addr) (d' : Nat) (w : World) (ha : a.wf) (hb : b.wf)
    (pa : Rd tmL 10 w A a.proof) (ta : Rd txL 7 w B a.txs) (pb : Rd tmL 10 w A' b.proof) (tb : Rd txL 7 w B' b.txs)
    (a1 : decide (a.view = b.view) = true) (a2 : decide (a.round = b.round) = true) (a3 : decide (a.height = b.height) = true) (a4 : decide (a.author = b.author) = false) :
    Calls Tryd.prog 20 #[.agg (bloC a (.slice A a.proof.length c) (.slice B a.txs.length d)), .agg (bloC b (.slice A' b.proof.length c') (.slice B' b.txs.length d'))] w (gives (.bool (sameV a b)) w) := by
  replace a1 := Lib.hid a1
  replace a2 := Lib.hid a2
  replace a3 := Lib.hid a3
  replace a4 := Lib.hid a4
  have F0 := Lib.hid (twoB_mk (c := c) (d := d) (c' := c') (d' := d') pa ta pb tb)
  have HT := Lib.hid (fun W r (h : TwoB w a b A c B d A' c' B' d' W) hr => refsame10_is B d a.txs B' d' b.txs r W ha.txs hb.txs h.ta h.tb (by have := ha.nt; omega) (by have := hb.nt; omega) hr)
  have HC := Lib.hid (fun W => neqC ha.par hb.par W)
  have HWF := Lib.hid (And.intro ha.proof hb.proof)
  have hnp := ha.np
  have e := same_parts a b
  clear ha hb pa ta pb tb
  go_enter Tryd.func20, Tryd.ntmps20
  go_upto_region 1 with fail
  refine name_world (fun w0 hw0 => ?_)
  have hA : TwoB w a b A c B d A' c' B' d' w0 := by rw [hw0]; exact F0.out
  clear hw0 F0
  obtain ⟨⟨x0, x1, x2, x3, x12, x13⟩, y0, y1, y2, y3, y12, y13⟩ := hA.cells
  obtain ⟨px, py⟩ := hA.pars
  have hbw := hA.bw
  replace a1 := a1.out
  replace a2 := a2.out
  replace a3 := a3.out
  replace a4 := a4.out
  rw [a1, a2, a3, a4] at e
  have E := Lib.hid e
  obtain ⟨q1, _⟩ := beq_d a1
  obtain ⟨q2, _⟩ := beq_d a2
  obtain ⟨q3, _⟩ := beq_d a3
  obtain ⟨q4, _⟩ := beq_d a4
  clear e a1 a2 a3 a4 HT HC hA HWF
  go_wp2
  go_ret
  exact ⟨by rw [E.out]; rfl, hbw⟩
end Go.Proofs.YtkjkkbionlmohaaDoor
