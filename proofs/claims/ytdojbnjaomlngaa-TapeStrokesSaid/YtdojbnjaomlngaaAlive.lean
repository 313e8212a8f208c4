/-
  The chapter's example.
-/
import Derived.Test.YtdojbnjaomlngaaDoB
set_option linter.unusedSimpArgs false
set_option linter.unusedVariables false
set_option maxRecDepth 10000
namespace Go.Proofs.Ytdojbnjaomlngaa
open Go.RowKit Go.Lib
open L3 (Blk Reads block_of_add add_of_add)
open L6 (Turn moreB fresh From In)

def exA : Nat → Actx
  | 0 => ⟨0, 0, [97, 98, 99]⟩
  | 1 => ⟨1, 0, []⟩
  | 2 => ⟨0, 0, [100, 101, 102]⟩
  | 3 => ⟨2, 1, []⟩
  | _ => ⟨5, 2, []⟩
def exS : Nat → Tp
  | 0 => newTp 20
  | k + 1 => doT (exS k) (exA k)
theorem exA_fit (k : Nat) : (exA k).fit ∧ (exA k).s.length ≤ 3 := by
  match k with
  | 0 => exact ⟨⟨⟨by decide, by decide⟩, ⟨by decide, by decide⟩, by decide⟩, by decide⟩
  | 1 => exact ⟨⟨⟨by decide, by decide⟩, ⟨by decide, by decide⟩, by decide⟩, by decide⟩
  | 2 => exact ⟨⟨⟨by decide, by decide⟩, ⟨by decide, by decide⟩, by decide⟩, by decide⟩
  | 3 => exact ⟨⟨⟨by decide, by decide⟩, ⟨by decide, by decide⟩, by decide⟩, by decide⟩
  | k + 4 =>
    have e : exA (k + 4) = ⟨5, 2, []⟩ := rfl
    rw [e]
    exact ⟨⟨⟨by decide, by decide⟩, ⟨by decide, by decide⟩, by decide⟩, by decide⟩
theorem ex_err (k : Nat) (h : k < 5) : doE (exS k) (exA k) = 0 := by
  match k, h with
  | 0, _ => rfl
  | 1, _ => rfl
  | 2, _ => rfl
  | 3, _ => rfl
  | 4, _ => rfl
theorem ex_stop (k : Nat) (h : k < 5) : (exS k).first + (exS k).held.length ≤ 100 := by
  match k, h with
  | 0, _ => exact of_decide_eq_true rfl
  | 1, _ => exact of_decide_eq_true rfl
  | 2, _ => exact of_decide_eq_true rfl
  | 3, _ => exact of_decide_eq_true rfl
  | 4, _ => exact of_decide_eq_true rfl
theorem ex_end : exS 5 = ⟨1, 5, [98, 99, 100, 101], 20, none, true⟩ := rfl
def exC : Array Value := #[.int .i64 0, .int .i64 0, .string (str [97, 98, 99]), .int .i64 1, .int .i64 0, .string (str []), .int .i64 0, .int .i64 0, .string (str [100, 101, 102]), .int .i64 2, .int .i64 1, .string (str []), .int .i64 5, .int .i64 2, .string (str [])]
theorem ex_row (k : Nat) (h : k < 5) : ∀ j v, (acL (exA k))[j]? = some v → exC[k * 3 + j]? = some v := by
  intro j v hj
  match k, h, j, hj with
  | 0, _, 0, hj => exact hj
  | 0, _, 1, hj => exact hj
  | 0, _, 2, hj => exact hj
  | 1, _, 0, hj => exact hj
  | 1, _, 1, hj => exact hj
  | 1, _, 2, hj => exact hj
  | 2, _, 0, hj => exact hj
  | 2, _, 1, hj => exact hj
  | 2, _, 2, hj => exact hj
  | 3, _, 0, hj => exact hj
  | 3, _, 1, hj => exact hj
  | 3, _, 2, hj => exact hj
  | 4, _, 0, hj => exact hj
  | 4, _, 1, hj => exact hj
  | 4, _, 2, hj => exact hj
  | 0, _, j + 3, hj => cases hj
  | 1, _, j + 3, hj => cases hj
  | 2, _, j + 3, hj => cases hj
  | 3, _, j + 3, hj => cases hj
  | 4, _, j + 3, hj => cases hj
theorem acC_ones (x : Actx) : (acC x).all (·.oneCell') = true := by kernel_rfl
theorem build_ex0 (s : ByteArray) (w : World) : (Instr.build 31 #[(0, .int .i64 0), (2, .string s)]).run Try.prog w = .ok (.agg #[.int .i64 0, .int .i64 0, .string s]) w := run_build w _ _ _ (by kernel_rfl)
theorem build_ex1 (w : World) : (Instr.build 31 #[(0, .int .i64 1)]).run Try.prog w = .ok (.agg #[.int .i64 1, .int .i64 0, .string (str [])]) w := run_build w _ _ _ (by kernel_rfl)
theorem build_ex2 (k n : Int) (w : World) : (Instr.build 31 #[(0, .int .i64 k), (1, .int .i64 n)]).run Try.prog w = .ok (.agg #[.int .i64 k, .int .i64 n, .string (str [])]) w := run_build w _ _ _ (by kernel_rfl)
theorem slice_ex (w : World) : (Instr.buildSlice 22 5 #[(0, .agg #[.int .i64 0, .int .i64 0, .string (str [97, 98, 99])]), (1, .agg #[.int .i64 1, .int .i64 0, .string (str [])]), (2, .agg #[.int .i64 0, .int .i64 0, .string (str [100, 101, 102])]), (3, .agg #[.int .i64 2, .int .i64 1, .string (str [])]), (4, .agg #[.int .i64 5, .int .i64 2, .string (str [])])]).run Try.prog w = .ok (.slice (some ⟨w.heap.size, 0, none⟩) 5 5) (w.alloc (.cells exC 31)) := by kernel_rfl
/-- A round of the example. -/
structure ExAt (w : World) (g l k : Nat) (S : Nat → Prop) (wx : World) : Prop where
  tp : Tpe wx S g (exS k)
  inn : In wx S
  frm : From w.heap.size S
  bw : Below w.heap.size w wx
  lit : Blk wx l 31 exC
  nl : ¬ S l
theorem ExAt.next {w wx wy wz : World} {g l k : Nat} {S : Nat → Prop} (h : ExAt w g l k S wx) (hb : Below wx.heap.size wx wy) (hT : Tpe wz (moreB S wy wz) g (doT (exS k) (exA k))) (hU : Turn S wy wz) : ExAt w g l (k + 1) (moreB S wy wz) wz := by
  have hl := h.lit.lt
  have hs := hb.size
  refine ⟨hT, (h.inn.le hs).more hU.size, fun j hj => ?_, L6.nxtT (nxt h.bw hb) hU h.frm, hU.blk (h.lit.below hb hl) h.nl, fun hk => hk.elim h.nl (fun hk => by have := hk.1; omega)⟩
  rcases hj with hj | hj
  · exact h.frm j hj
  · have := hj.1; have := h.bw.size; omega
set_option maxHeartbeats 4000000 in
set_option maxRecDepth 100000 in
theorem alive_any (w : World) : Calls Try.prog 6 #[] w (gives (.bool true) w) := by
  have HN := Lib.hid (new_any 20 w (by decide))
  go_enter Try.func6, Try.ntmps6
  go_upto_region 4 with (first
    | (go_at_call 7; refine HN.out.mono ?_; rintro e w1 ⟨rfl, hT1, hb1⟩)
    | go_in)
  have hi1 : In w1 (fresh w w1) := L6.In.fresh _ _
  have hfr : From w.heap.size (fresh w w1) := L6.From.fresh _ _
  have hE0 := Lib.hid (show ExAt w w.heap.size w1.heap.size 0 (fresh w w1) (w1.alloc (.cells exC 31)) from
    ⟨hT1.below (below_new _ _), hi1.le (by simp), hfr, nxt hb1 (below_new _ _), Blk.new _ _ _, fun hk => by have := hi1 _ hk; omega⟩)
  have hs0 := slice_ex w1
  clear hT1 hi1 hfr hb1 HN
  obtain ⟨S0, hS0⟩ : ∃ S0, S0 = fresh w w1 := ⟨_, rfl⟩
  rw [← hS0] at hE0
  clear hS0
  go_wp2_with (first
    | (refine wpList_build rfl _ _ rfl #[(0, .int .i64 0), (2, .string { data := #[97, 98, 99] })] rfl (build_ex0 { data := #[97, 98, 99] } _) ?_)
    | (refine wpList_build rfl _ _ rfl #[(0, .int .i64 1)] rfl (build_ex1 _) ?_)
    | (refine wpList_build rfl _ _ rfl #[(0, .int .i64 0), (2, .string { data := #[100, 101, 102] })] rfl (build_ex0 { data := #[100, 101, 102] } _) ?_)
    | (refine wpList_build rfl _ _ rfl #[(0, .int .i64 2), (1, .int .i64 1)] rfl (build_ex2 2 1 _) ?_)
    | (refine wpList_build rfl _ _ rfl #[(0, .int .i64 5), (1, .int .i64 2)] rfl (build_ex2 5 2 _) ?_)
    | (refine wpList_buildSlice rfl _ _ _ rfl #[(0, .agg #[.int .i64 0, .int .i64 0, .string (str [97, 98, 99])]), (1, .agg #[.int .i64 1, .int .i64 0, .string (str [])]), (2, .agg #[.int .i64 0, .int .i64 0, .string (str [100, 101, 102])]), (3, .agg #[.int .i64 2, .int .i64 1, .string (str [])]), (4, .agg #[.int .i64 5, .int .i64 2, .string (str [])])] rfl (slice_ex _) ?_)
    | go_in)
  clear hs0
  go_loopw [25] (fun i wr => ∃ (k : Nat) (S : Nat → Prop), i = .int .i64 k ∧ k ≤ 5 ∧ ExAt w w.heap.size w1.heap.size k S wr) (fun i _ => 5 - (RowKit.intOf i).toNat)
  case atStart => exact ⟨0, S0, rfl, by omega, hE0.out⟩
  case round =>
    obtain ⟨k, S, rfl, hk, hE⟩ := hrel
    clear hE0
    obtain ⟨g, hg⟩ : ∃ g, g = w.heap.size := ⟨_, rfl⟩
    obtain ⟨l, hl⟩ : ∃ l, l = w1.heap.size := ⟨_, rfl⟩
    rw [← hg, ← hl] at hE
    rw [← hg, ← hl]
    clear hg hl
    by_cases hlt : k < 5
    · have hcs : ∀ j v, (acL (exA k))[j]? = some v → wr.cell? ((⟨l, k * 3, none⟩ : Addr).add j) = some v := fun j v hj => by
        rw [Addr.add_lit, hE.lit.cell]
        exact ex_row k hlt j v hj
      have hfi := exA_fit k
      have hyb : Blk (wr.alloc (.cells (acC (exA k)) 31)) wr.heap.size 31 (acC (exA k)) := Blk.new _ _ _
      have hbn : Below wr.heap.size wr (wr.alloc (.cells (acC (exA k)) 31)) := below_new _ _
      have hst := ex_stop k hlt
      have HD := Lib.hid (do_any (hE.tp.below hbn) (hE.inn.le hbn.size) (exA k) hfi.1 (by omega) (by omega))
      rw [ex_err k hlt] at HD
      have HNX := Lib.hid (fun W' hT hU => hE.next (wz := W') hbn hT hU)
      obtain ⟨x, hx⟩ : ∃ x, x = exA k := ⟨_, rfl⟩
      rw [← hx] at hcs hyb HD HNX
      clear hE hfi hbn hst hx
      go_wp2_with (first
        | (refine wpList_cells_at rfl _ _ rfl ⟨l, k * 3, none⟩ rfl (acL x) _ hcs Try.underlying31 rfl acInfo ?_)
        | (refine wpList_store_new rfl _ _ _ rfl wr (acC x) rfl rfl _ _ acInfo rfl (acC_ones _) ?_)
        | (refine wpList_row_at rfl _ _ rfl wr.heap.size rfl _ _ _ _ hyb Try.underlying31 rfl acInfo ?_)
        | (go_at_call 9; refine HD.out.mono ?_; rintro e w4 hp; obtain ⟨rfl, hT4, hU4⟩ := hp)
        | go_in)
      go_roundw
      case rel => exact ⟨k + 1, _, by go_num, by omega, HNX.out _ hT4 hU4⟩
      case measure => simp [RowKit.intOf]; omega
    · obtain rfl : k = 5 := by omega
      have HE := Lib.hid hE
      have hT5 := hE.tp
      rw [ex_end] at hT5
      have HR := Lib.hid (read_on hT5 rfl)
      clear hE hT5
      go_wp2_with (first
        | (go_at_call 12; refine HR.out.mono ?_; unfold ReadPost; rintro e w4 ⟨A4, c4, rfl, hT4⟩
           have hcv : (convert 33 9 (.slice A4 4 c4)).run Try.prog w4 = .ok (.string { data := #[98, 99, 100, 101] }) w4 := conv_reads (k := 4) (c := c4) hT4.rd (Nat.le_refl _))
        | go_in)
      go_ret
      exact ⟨rfl, nxt HE.out.bw hT4.bw⟩
end Go.Proofs.Ytdojbnjaomlngaa
