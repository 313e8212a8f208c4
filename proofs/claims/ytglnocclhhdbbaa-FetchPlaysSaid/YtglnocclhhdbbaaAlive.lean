/-
  The chapter's example.
-/
import Derived.Test.YtglnocclhhdbbaaOne
set_option linter.unusedSimpArgs false
set_option linter.unusedVariables false
set_option maxRecDepth 10000
namespace Go.Proofs.Ytglnocclhhdbbaa
open Go.RowKit Go.Lib
open L3 (Blk Reads block_of_add add_of_add)
open L6 (Turn moreB fresh From In)
open L4 (isF isF_mk isF_not isF_le isF_gt more)

def exV (k : Nat) : Int := whomV 1 2 k
theorem exV_is : exV 0 = 3 ∧ exV 1 = 0 ∧ exV 2 = 1 ∧ exV 3 = 3 := by decide
/-- A round of the example. -/
structure ExAt (w : World) (g l k : Nat) (S : Nat → Prop) (wx : World) : Prop where
  ft : Ft wx S g (oneS 1 2 3 9 7 k)
  inn : In wx S
  frm : From w.heap.size S
  bw : Below w.heap.size w wx
  lit : Blk wx l 3 #[.int .i64 3, .int .i64 0, .int .i64 1, .int .i64 3]
  nl : ¬ S l
theorem ex_cell {w wx : World} {g l k : Nat} {S : Nat → Prop} (h : ExAt w g l k S wx) (hk : k < 4) : wx.cell? ⟨l, k, none⟩ = some (.int .i64 (exV k)) := by
  obtain ⟨e0, e1, e2, e3⟩ := exV_is
  match k, hk with
  | 0, _ => rw [e0]; exact h.lit.cell 0
  | 1, _ => rw [e1]; exact h.lit.cell 1
  | 2, _ => rw [e2]; exact h.lit.cell 2
  | 3, _ => rw [e3]; exact h.lit.cell 3
theorem ExAt.next {w wx wy : World} {g l k : Nat} {S : Nat → Prop} (h : ExAt w g l k S wx) (hF : Ft wy (moreB S wx wy) g (oneS 1 2 3 9 7 ((k : Int) + 1))) (hT : Turn S wx wy) : ExAt w g l (k + 1) (moreB S wx wy) wy := by
  have hl := h.lit.lt
  refine ⟨by push_cast; exact hF, h.inn.more hT.size, h.frm.more h.bw.size, L6.nxtT h.bw hT h.frm, hT.blk h.lit h.nl, fun hk => hk.elim h.nl (fun hk => by have := hk.1; omega)⟩
theorem got_one {n : Int} : gotL [⟨7, n⟩] 8 = [⟨7, n⟩] ∧ gotE [⟨7, n⟩] 8 = 160 ∧ gotL [⟨7, n⟩] 7 = [] ∧ gotE [⟨7, n⟩] 7 = 0 := by
  refine ⟨by simp [gotL], ?_, by simp [gotL], ?_⟩
  · exact if_neg (by rintro ⟨x, hx, e⟩; simp at hx; subst hx; simp at e)
  · exact if_pos ⟨⟨7, n⟩, by simp, rfl⟩
set_option maxHeartbeats 4000000 in
set_option maxRecDepth 100000 in
theorem alive_any (w : World) : Calls Try.prog 6 #[] w (gives (.bool true) w) := by
  have HN := Lib.hid (new_ok 1 2 3 9 w (isF_mk (by decide) (by decide)) (by decide) (by decide) (by decide) (by decide) (by decide) ⟨by decide, by decide⟩)
  go_enter Try.func6, Try.ntmps6
  go_upto_region 2 with (first
    | (go_at_call 7; refine HN.out.mono ?_; rintro e w1 ⟨rfl, hF1, hb1⟩)
    | go_in)
  have hi1 : In w1 (fresh w w1) := L6.In.fresh _ _
  have hfr : From w.heap.size (fresh w w1) := L6.From.fresh _ _
  obtain ⟨ew, el⟩ := one_want (f := 1) (me := 2) (most := 3) (tries := 9) (n := 7) (by decide) (by decide)
  have HWa := Lib.hid (show Calls Try.prog 9 #[.pointer (some ⟨w.heap.size, 0, none⟩), .int .i64 7] w1 (FtPost (.int .i64 0) (fresh w w1) w.heap.size (oneS 1 2 3 9 7 0) w1) from by
    have := want_any hF1 7 ⟨by decide, by decide⟩
    rw [ew] at this
    have e : ({ (⟨1, 2, 3, 9, []⟩ : FS) with L := wantL ⟨1, 2, 3, 9, []⟩ 7 } : FS) = oneS 1 2 3 9 7 0 := by rw [el]; rfl
    rw [e] at this
    exact this)
  obtain ⟨S1, hS1⟩ : ∃ S1, S1 = fresh w w1 := ⟨_, rfl⟩
  obtain ⟨g, hg⟩ : ∃ g, g = w.heap.size := ⟨_, rfl⟩
  rw [← hS1] at hi1 hfr HWa
  rw [← hg] at HWa ⊢
  clear hF1 hS1 HN hg ew el
  go_upto_region 4 with (first
    | (go_at_call 9; refine HWa.out.mono ?_; rintro e w2 ⟨rfl, hF2, hT2⟩)
    | go_in)
  have hb2 : Below w.heap.size w w2 := L6.nxtT hb1 hT2 hfr
  have hi2 := hi1.more hT2.size
  have hfr2 := hfr.more (w := w1) (w' := w2) hb1.size
  obtain ⟨S2, hS2⟩ : ∃ S2, S2 = moreB S1 w1 w2 := ⟨_, rfl⟩
  rw [← hS2] at hi2 hfr2 hF2
  have hE0 := Lib.hid (show ExAt w g w2.heap.size 0 S2 (w2.alloc (.cells #[.int .i64 3, .int .i64 0, .int .i64 1, .int .i64 3] 3)) from
    ⟨hF2.below (below_new _ _), hi2.le (by simp), hfr2, nxt hb2 (below_new _ _), Blk.new _ _ _, fun hk => by have := hi2 _ hk; omega⟩)
  obtain ⟨l, hl⟩ : ∃ l, l = w2.heap.size := ⟨_, rfl⟩
  rw [← hl] at hE0
  obtain ⟨w3, hw3⟩ : ∃ w3, w3 = w2.alloc (.cells #[.int .i64 3, .int .i64 0, .int .i64 1, .int .i64 3] 3) := ⟨_, rfl⟩
  rw [← hw3] at hE0
  have HW3 := Lib.hid hw3
  have HLL := Lib.hid hl
  clear hw3 hl hF2 hi2 hfr2 hS2 hT2 hb2 hi1 hfr hb1 HWa
  go_upto_region 5 with fail
  rw [← HW3.out, ← HLL.out]
  clear HW3 HLL
  go_loopw [23] (fun i wr => ∃ (k : Nat) (S : Nat → Prop), i = .int .i64 k ∧ k ≤ 4 ∧ ExAt w g l k S wr) (fun i _ => 4 - (RowKit.intOf i).toNat)
  case atStart => exact ⟨0, S2, rfl, by omega, hE0.out⟩
  case round =>
    obtain ⟨k, S, rfl, hk, hE⟩ := hrel
    by_cases hlt : k < 4
    · have cl := ex_cell hE hlt
      have HT0 := oneTick_any hE.ft hE.inn (by omega)
      unfold OneTick at HT0
      have HE := Lib.hid hE
      have hev : exV k = whomV 1 2 k := rfl
      obtain ⟨q, hq⟩ : ∃ q, q = exV k := ⟨_, rfl⟩
      rw [← hq] at cl hev
      rw [← hev] at HT0
      have HT := Lib.hid HT0
      clear hE hev hq HT0
      go_wp2_with (first
        | (go_at_call 13; refine HT.out.mono ?_; rintro e w4 ⟨b, c, rfl, d0, d1, d2, hF4, hT4, hi4⟩)
        | go_in)
      go_roundw
      case rel => exact ⟨k + 1, _, by go_num, by omega, HE.out.next hF4 hT4⟩
      case measure => simp [RowKit.intOf]; omega
    · obtain rfl : k = 4 := by omega
      obtain ⟨e1, e2, e3, e4⟩ := got_one (n := ((4 : Nat) : Int))
      have HG1 := Lib.hid (show Calls Try.prog 11 #[.pointer (some ⟨g, 0, none⟩), .int .i64 8] wr (FtPost (.int .i64 160) S g (oneS 1 2 3 9 7 (4 : Nat)) wr) from by
        have := got_any hE.ft 8
        have f1 : gotE (oneS 1 2 3 9 7 (4 : Nat)).L 8 = 160 := e2
        have f2 : gotL (oneS 1 2 3 9 7 (4 : Nat)).L 8 = (oneS 1 2 3 9 7 (4 : Nat)).L := e1
        rw [f1, f2] at this
        exact this)
      have HE := Lib.hid hE
      clear hE
      go_wp2_with (first
        | (go_at_call 11; (with_reducible refine HG1.out.mono ?_); rintro e w4 ⟨rfl, hF4, hT4⟩
           have hb4 := L6.nxtT HE.out.bw hT4 HE.out.frm
           have hi4 := HE.out.inn.more hT4.size
           have hf4 := HE.out.frm.more (w := wr) (w' := w4) HE.out.bw.size
           generalize hM4 : moreB S wr w4 = M4 at hF4 hi4 hf4
           clear hM4
           have HG2 := Lib.hid (show Calls Try.prog 11 #[.pointer (some ⟨g, 0, none⟩), .int .i64 7] w4 (FtPost (.int .i64 0) M4 g ⟨1, 2, 3, 9, []⟩ w4) from by
             have := got_any hF4 7
             have f1 : gotE (oneS 1 2 3 9 7 (4 : Nat)).L 7 = 0 := e4
             have f2 : gotL (oneS 1 2 3 9 7 (4 : Nat)).L 7 = [] := e3
             rw [f1, f2] at this
             exact this))
        | (go_at_call 11; (with_reducible refine HG2.out.mono ?_); rintro e w5 ⟨rfl, hF5, hT5⟩
           have hb5 := L6.nxtT hb4 hT5 hf4
           have hi5 := hi4.more hT5.size
           have hf5 := hf4.more (w := w4) (w' := w5) hb4.size
           generalize hM5 : moreB M4 w4 w5 = M5 at hF5 hi5 hf5
           clear hM5
           have HG3 := Lib.hid (noTick_any hF5 hi5 rfl rfl))
        | (go_at_call 13; refine HG3.out.mono ?_; unfold NoTick; rintro e w6 ⟨A6, c6, rfl, hF6, hT6⟩
           have hb6 := L6.nxtT hb5 hT6 hf5)
        | go_in)
      go_ret
      exact ⟨rfl, hb6⟩
end Go.Proofs.Ytglnocclhhdbbaa
