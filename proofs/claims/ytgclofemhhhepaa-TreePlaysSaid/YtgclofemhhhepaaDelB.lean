/-
  Orphans of old rounds struck: the closure's question, and the map gone through.
-/
import Derived.Test.YtgclofemhhhepaaMiss
import Derived.Maps.Ext
import Derived.Maps.RangeWalk
import Derived.Laws.IdiomRangeMap
import Derived.Deep.LoopGhost
set_option linter.unusedSimpArgs false
set_option linter.unusedVariables false
set_option maxRecDepth 10000
namespace Go.Proofs.Ytgclofemhhhepaa
open Go.RowKit Go.Maps Go.Lib
open L3 (Blk Reads)
open L6 (Turn moreB fresh From In)

set_option maxHeartbeats 1000000 in
set_option maxRecDepth 100000 in
theorem closure_b {w : World} {g ct : Nat} {x rd : Int} {b : Bl} (hct : w.cell? ⟨ct, 0, none⟩ = some (.pointer (some ⟨g, 0, none⟩))) (hrd : w.cell? ⟨g, 2, none⟩ = some (.int .i64 rd)) :
    Calls Try.prog 32 #[.int .i64 x, .agg (blC b), .pointer (some ⟨ct, 0, none⟩)] w (gives (.bool (decide (b.rd ≤ rd))) w) := by
  have hb1 := below_box (w := w) 39 b
  have k1 := (box_new w 39 b).cell 1
  have c0 := (hb1.cell (p := ⟨ct, 0, none⟩) (World.block_lt_of_cell? _ _ hct)).trans hct
  have c2 := (hb1.cell (p := ⟨g, 2, none⟩) (World.block_lt_of_cell? _ _ hrd)).trans hrd
  replace k1 : (w.alloc (.cells (blC b) 39)).cell? ⟨w.heap.size, 1, none⟩ = some (.int .i64 b.rd) := k1
  clear hct hrd
  obtain ⟨w1, hw1⟩ : ∃ w1, w1 = w.alloc (.cells (blC b) 39) := ⟨_, rfl⟩
  rw [← hw1] at hb1 k1 c0 c2
  go_enter Try.func32, Try.ntmps32
  go_upto_region 1 with fail
  rw [← hw1]
  clear hw1
  obtain ⟨q, hq⟩ : ∃ q, q = b.rd := ⟨_, rfl⟩
  rw [← hq] at k1
  have HQ := Lib.hid hq
  clear hq
  go_quiet (fail)
  go_wp2
  go_ret
  exact ⟨by rw [← HQ.out]; rfl, L6.below_drewN hb1 _⟩
/-- What stays of a map gone through so far. -/
def goneF (F : Int → Option Bl) (rd : Int) (left : Lit → Bool) (x : Int) : Option Bl := (F x).bind fun y => if y.rd ≤ rd ∧ left (keyI x) = false then none else some y
theorem goneF_start {D : DataW Unit} {F : Int → Option Bl} {rd : Int} (h : FitsI blD D F) : FitsI blD D (goneF F rd (Maps.has D)) :=
  h.congr fun x hx => by
    unfold goneF
    cases hf : F x with
    | none => rfl
    | some y =>
      have := (h x hx).1
      rw [hf] at this
      show _ = if _ then _ else _
      rw [if_neg (by rw [this]; simp)]
theorem goneF_end {F : Int → Option Bl} {rd : Int} {left : Lit → Bool} (hl : ∀ kl, left kl = false) (x : Int) : goneF F rd left x = (F x).bind fun y => if y.rd ≤ rd then none else some y := by
  unfold goneF
  simp only [hl, and_true]
theorem goneF_struck {F : Int → Option Bl} {rd x : Int} {left : Lit → Bool} {y : Bl} (hF : F x = some y) (hy : y.rd ≤ rd) (z : Int) : (if z = x then none else goneF F rd left z) = goneF F rd (fun k => left k && !k.sameKey (keyI x)) z := by
  unfold goneF
  simp only [sameKey_ii]
  by_cases hz : z = x
  · subst hz
    rw [if_pos rfl, hF]
    show _ = if _ then _ else _
    rw [if_pos ⟨hy, by simp⟩]
  · simp [hz]
theorem goneF_stays {F : Int → Option Bl} {rd x : Int} {left : Lit → Bool} {y : Bl} (hF : F x = some y) (hy : ¬ y.rd ≤ rd) (z : Int) : goneF F rd left z = goneF F rd (fun k => left k && !k.sameKey (keyI x)) z := by
  unfold goneF
  simp only [sameKey_ii]
  by_cases hz : z = x
  · subst hz
    rw [hF]
    show (if _ then _ else _) = if _ then _ else _
    rw [if_neg (fun h => hy h.1), if_neg (fun h => hy h.1)]
  · simp [hz]
theorem goneF_at {F : Int → Option Bl} {rd x : Int} {left : Lit → Bool} {y : Bl} (h : goneF F rd left x = some y) : F x = some y := by
  unfold goneF at h
  cases hf : F x with
  | none => rw [hf] at h; cases h
  | some c =>
    rw [hf] at h
    have h' : (if c.rd ≤ rd ∧ left (keyI x) = false then none else some c) = some y := h
    split at h'
    · cases h'
    · exact h'
set_option maxHeartbeats 2000000 in
set_option maxRecDepth 100000 in
theorem del_any {w : World} {g bo ct n : Nat} {rd : Int} {D0 : DataW Unit} {F : Int → Option Bl} (hown : w.ownsMap Try.prog 3 blElem bo n D0) (hF : FitsI blD D0 F)
    (hct : w.cell? ⟨ct, 0, none⟩ = some (.pointer (some ⟨g, 0, none⟩))) (hrd : w.cell? ⟨g, 2, none⟩ = some (.int .i64 rd)) (hg : g ≠ bo) (hc : ct ≠ bo) :
    Calls Try.prog 31 #[.map (some bo), .func (.func 32) #[] #[.pointer (some ⟨ct, 0, none⟩)]] w fun e w' =>
      e = .returned (.tuple #[]) ∧ ∃ D', w'.ownsMap Try.prog 3 blElem bo n D' ∧ FitsI blD D' (fun x => (F x).bind fun y => if y.rd ≤ rd then none else some y) ∧ Turn (fun k => k = bo) w w' := by
  have HF := Lib.hid hF
  have HC := Lib.hid (fun W (ht : Turn (fun k => k = bo) w W) => (⟨ht.cell hct hc, ht.cell hrd hg⟩ : W.cell? ⟨ct, 0, none⟩ = some (.pointer (some ⟨g, 0, none⟩)) ∧ W.cell? ⟨g, 2, none⟩ = some (.int .i64 rd)))
  have hbo := hown.lt
  clear hct hrd hg hc hF
  go_enter Try.func31, Try.ntmps31
  go_wp2_with (first
    | (at_range; refine wpList_range_own _ rfl _ 64 rfl 3 39 kdI Try.underlying64 blElem bo n _ rfl hown ?_; intro w0 hrg0 hg0 hs0)
    | go_in)
  try go_frame
  have hstart : ∃ (left : Lit → Bool) (cnt : Nat) (D : DataW Unit), w0.ranges Try.prog 3 blElem bo w.heap.size n D left cnt ∧ FitsI blD D (goneF F rd left) ∧ Turn (fun k => k = bo) w w0 :=
    ⟨_, _, _, hrg0, goneF_start HF.out, L6.Turn.of_grown hg0 (fun i h => by cases h)⟩
  clear hrg0 hg0 hs0 hown
  go_loopw [8] (fun _ wr => ∃ (left : Lit → Bool) (cnt : Nat) (D : DataW Unit), wr.ranges Try.prog 3 blElem bo w.heap.size n D left cnt ∧ FitsI blD D (goneF F rd left) ∧ Turn (fun k => k = bo) w wr)
    (fun _ wr => wr.rangeLeft bo w.heap.size)
  case atStart => exact hstart
  case round =>
    clear hstart
    obtain ⟨left, cnt, D, hrg, hD, htw⟩ := hrel
    go_wp2_with (first
      | (at_next; refine wpList_next_ranges _ rfl _ rfl 3 kdI blElem (Value.int .i64) (fun b : Bl => .agg (blC b)) (fun key kl h => by obtain ⟨x, hx, _⟩ := Maps.keyOf_int_inv Try.underlying3 h; exact ⟨x, hx⟩) (fun v y h => by obtain ⟨b, hb, _⟩ := blElem_inv h; exact ⟨b, hb⟩) bo w.heap.size _ _ _ _ rfl hrg ?_ ?_)
      | go_in)
    · intro hc0 hl0
      go_wp2
      go_end0
      exact ⟨rfl, _, hrg.owns, hD.congr fun x _ => goneF_end hl0 x, htw⟩
    · intro x c kl yd yl w3 cnt3 hkey hlk hR hat hrg3 hlt hg3 hs3 hen
      obtain ⟨x', ex, rfl, hwx⟩ := Maps.keyOf_int_inv Try.underlying3 hkey
      obtain rfl : x = x' := by injection ex
      have hxi : inI x := wf_inI hwx
      obtain rfl : yd = blD c := by rw [blElem_mk] at hR; exact (congrArg Prod.fst (Option.some.inj hR)).symm
      have hgx : goneF F rd left x = some c := by
        have hh : Maps.has D (keyI x) = true := has_true_of_atKey hat
        rw [(hD x hxi).1] at hh
        obtain ⟨y, hy⟩ := Option.isSome_iff_exists.1 hh
        have := (hD x hxi).2 y hy (.map [])
        rw [hy, blD_inj (this.symm.trans (hat (.map [])))]
      have HFx := Lib.hid (goneF_at hgx)
      have ht3 : Turn (fun k => k = bo) w w3 := htw.grown hg3 (fun i h => by cases h; exact .inr (Nat.le_refl _))
      have hb4 : Below w3.heap.size w3 (w3.alloc (.cells (blC c) 39)) := below_box _ c
      have k4 := box_new w3 39 c
      have hrg4 := hrg3.alloc (.cells (blC c) 39)
      obtain ⟨w4, hw4⟩ : ∃ w4, w4 = w3.alloc (.cells (blC c) 39) := ⟨_, rfl⟩
      rw [← hw4] at hb4 k4 hrg4
      have ht4 := ht3.kept hb4
      have HRO := Lib.hid hrg.left_eq
      have HD := Lib.hid hD
      clear hkey hR hrg3 hrg hs3 hgx hD
      go_upto_region 3 with (first
        | (refine wpList_store_new rfl _ _ _ rfl w3 (blC c) rfl rfl 39 _ blInfo rfl (blC_ones _) ?_)
        | go_in)
      rw [← hw4]
      clear hw4 hen
      obtain ⟨i1, i2⟩ := HC.out _ ht4
      have HQ := Lib.hid (closure_b (x := x) (b := c) i1 i2)
      clear i1 i2
      obtain ⟨r, hr⟩ : ∃ r, r = decide (c.rd ≤ rd) := ⟨_, rfl⟩
      rw [← hr] at HQ
      have HR := Lib.hid hr
      clear hr
      go_wp2_with (first
        | (refine wpList_load_row rfl 39 _ rfl w3.heap.size rfl _ _ _ _ k4 Try.underlying39 rfl blInfo ?_)
        | (fail))
      refine HQ.out.mono ?_
      unfold gives
      rintro e w5 ⟨rfl, hb5⟩
      have hrg5 := hrg4.kept (grown_of_below hb5) (by simp) (by simp)
      have ht5 := ht4.kept hb5
      clear HQ hb4 hb5 k4 hrg4 ht3 ht4 htw hg3
      cases r with
      | true =>
        have hy : c.rd ≤ rd := of_decide_eq_true HR.out.symm
        have HD' := Lib.hid (((HD.out).del hxi).congr fun z _ => goneF_struck HFx.out hy z)
        go_wp2_with (first
          | (at_delete; go_loud (refine wpList_delete_ranges _ rfl _ _ 64 3 rfl 39 kdI Try.underlying64 blElem bo w.heap.size n _ _ _ rfl hrg5 _ _ rfl (key_at hxi) ?_); intro w6 cnt6 hrg6 hle hturn; try go_frame)
          | go_in)
        replace hrg6 : w6.ranges Try.prog 3 blElem bo w.heap.size n _ (fun z => left z && !z.sameKey (keyI x) && !z.sameKey (keyI x)) cnt6 := hrg6
        rw [strike_twice] at hrg6
        go_roundw
        case rel => exact ⟨_, cnt6, _, hrg6, HD'.out, ht5.grown hturn.grown (fun i h => by cases h; exact .inl rfl)⟩
        case measure => rw [hrg6.left_eq, HRO.out]; omega
      | false =>
        have hy : ¬ c.rd ≤ rd := of_decide_eq_false HR.out.symm
        have HD' := Lib.hid ((HD.out).congr fun z _ => goneF_stays HFx.out hy z)
        go_wp2
        go_roundw
        case rel => exact ⟨_, cnt3, _, hrg5, HD'.out, ht5⟩
        case measure => rw [hrg5.left_eq, HRO.out]; exact hlt
end Go.Proofs.Ytgclofemhhhepaa
