/-
  Are transactions more than are looked at? As a list.
-/
import Derived.Test.YtohkjleppohinaaDoorRowKit
import Derived.Test.YtohkjleppohinaaDoorGreat
set_option linter.unusedSimpArgs false
set_option linter.unusedVariables false
set_option maxRecDepth 10000
namespace Go.Proofs.YtohkjleppohinaaDoor
open Go.RowKit Go.Maps Go.Lib
open L3 (Blk)
open L6 (Turn moreB fresh From In)

def greatX (n : Nat) (D : Nat → Txx) : Bool := decide (60 < n) || (List.range n).any (fun i => greatB (D i))
theorem any_not {p : Nat → Bool} {n : Nat} (h : ∀ j, j < n → p j = false) : (List.range n).any p = false := by
  rw [List.any_eq_false]
  intro x hx
  rw [List.mem_range] at hx
  rw [h x hx]; decide
theorem any_yes {p : Nat → Bool} {n k : Nat} (hk : k < n) (h : p k = true) : (List.range n).any p = true := List.any_eq_true.2 ⟨k, List.mem_range.2 hk, h⟩
theorem greatX_not {n : Nat} {D : Nat → Txx} (h : greatX n D = false) : n ≤ 60 ∧ ∀ i, i < n → greatB (D i) = false := by
  unfold greatX at h
  rw [Bool.or_eq_false_iff] at h
  refine ⟨by have := h.1; rw [decide_eq_false_iff_not] at this; omega, fun i hi => ?_⟩
  have := List.any_eq_false.1 h.2 i (List.mem_range.2 hi)
  simpa using this
set_option maxHeartbeats 1000000 in
set_option maxRecDepth 100000 in
theorem greatX_any (A : Option Addr) (n c : Nat) (D : Nat → Txx) (w : World) (h : Txs w A n D) (hn : n ≤ maxLen) : Calls Tryd.prog 8 #[.slice A n c] w (gives (.bool (greatX n D)) w) := by
  unfold maxLen at hn
  by_cases h60 : 60 < n
  · have hg : greatX n D = true := by unfold greatX; rw [decide_eq_true h60]; rfl
    rw [hg]
    clear hg
    go_enter Tryd.func8, Tryd.ntmps8
    go_wp2
    go_ret
    exact ⟨rfl, Below.refl _ _⟩
  · have HG : Hid (greatX n D = (List.range n).any (fun i => greatB (D i))) := Lib.hid (by unfold greatX; rw [decide_eq_false h60]; rfl)
    go_enter Tryd.func8, Tryd.ntmps8
    go_wp2
    go_loopw [3] (fun i wr => ∃ k : Nat, i = .int .i64 k ∧ k ≤ n ∧ Hid (∀ j, j < k → greatB (D j) = false) ∧ Below w.heap.size w wr) (fun i _ => n - (intOf i).toNat)
    case atStart => exact ⟨0, rfl, Nat.zero_le _, Lib.hid (fun j hj => absurd hj (by omega)), Below.refl _ _⟩
    case round =>
      obtain ⟨k, rfl, hk, hno, hbw⟩ := hrel
      by_cases hlt : k < n
      · obtain ⟨ad, rfl, hadl, hcs, hwf⟩ := (h.below hbw) k hlt
        have hgr := fun W => great_any (D k) W
        rcases Bool.eq_false_or_eq_true (greatB (D k)) with hg | hg
        · have HY := Lib.hid (any_yes (p := fun i => greatB (D i)) hlt hg)
          rw [hg] at hgr
          clear hg
          go_wp2_with (first
            | (refine wpList_cells_at rfl _ _ rfl (ad.add (k * 7)) rfl (txL (D k)) _ hcs Tryd.underlying35 rfl txInfo ?_)
            | (go_at_call 21; refine (hgr _).mono ?_; unfold gives; rintro e w2 ⟨rfl, hb2⟩)
            | go_in)
          go_ret
          exact ⟨by rw [HG.out, HY.out]; rfl, nxt hbw hb2⟩
        · have HN : Hid (∀ j, j < k + 1 → greatB (D j) = false) := Lib.hid fun j hj => by
            rcases Nat.lt_or_ge j k with h1 | h1
            · exact hno.out j h1
            · obtain rfl : j = k := by omega
              exact hg
          rw [hg] at hgr
          clear hg
          go_wp2_with (first
            | (refine wpList_cells_at rfl _ _ rfl (ad.add (k * 7)) rfl (txL (D k)) _ hcs Tryd.underlying35 rfl txInfo ?_)
            | (go_at_call 21; refine (hgr _).mono ?_; unfold gives; rintro e w2 ⟨rfl, hb2⟩)
            | go_in)
          go_roundw
          case rel => exact ⟨k + 1, by go_num, by omega, HN, nxt hbw hb2⟩
          case measure => simp [intOf]; omega
      · obtain rfl : k = n := by omega
        have HN := Lib.hid (any_not hno.out)
        go_wp2
        go_ret
        exact ⟨by rw [HG.out, HN.out]; rfl, hbw⟩
/-- As a list. -/
def txsL (n : Nat) (D : Nat → Txx) : List Txx := (List.range n).map D
theorem txsL_len (n : Nat) (D : Nat → Txx) : (txsL n D).length = n := by simp [txsL]
theorem txsL_get (n : Nat) (D : Nat → Txx) (k : Nat) (h : k < n) : (txsL n D)[k]'(by rw [txsL_len]; exact h) = D k := by simp [txsL]
theorem Txs.rd {w : World} {A : Option Addr} {n : Nat} {D : Nat → Txx} (h : Txs w A n D) : Rd txL 7 w A (txsL n D) := fun i hi => by
  rw [txsL_len] at hi
  obtain ⟨ad, hA, hl, hc, _⟩ := h i hi
  rw [txsL_get n D i hi]
  exact ⟨ad, hA, hl, hc⟩
/-- What isn't great is small. -/
theorem small_txs {w : World} {A : Option Addr} {n : Nat} {D : Nat → Txx} (h : Txs w A n D) (hg : greatX n D = false) : (∀ t ∈ txsL n D, t.wf 1000) ∧ (txsL n D).length ≤ 60 := by
  obtain ⟨h1, h2⟩ := greatX_not hg
  refine ⟨fun t ht => ?_, by rw [txsL_len]; exact h1⟩
  unfold txsL at ht
  obtain ⟨i, hi, rfl⟩ := List.mem_map.1 ht
  rw [List.mem_range] at hi
  obtain ⟨_, _, _, _, hw⟩ := h i hi
  exact great_wf hw (h2 i hi)
end Go.Proofs.YtohkjleppohinaaDoor
