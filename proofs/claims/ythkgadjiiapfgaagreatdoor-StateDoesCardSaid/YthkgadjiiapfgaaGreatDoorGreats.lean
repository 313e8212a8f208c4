/-
  Are accounts, or transactions, more than are looked at?
-/
import Derived.Test.YthkgadjiiapfgaaGreatDoorRowKit
import Derived.Test.YthkgadjiiapfgaaGreatDoorGreat
set_option linter.unusedSimpArgs false
set_option linter.unusedVariables false
set_option maxRecDepth 10000
namespace Go.Proofs.YthkgadjiiapfgaaGreatDoor
open Go.RowKit Go.Maps Go.Lib
open L3 (Blk)
open L6 (Turn moreB fresh From In)

def greatA (n : Nat) (D : Nat → Am) : Bool := decide (60 < n) || (List.range n).any (fun i => decide (1000 < (D i).nm.length))
def greatX (n : Nat) (D : Nat → Txx) : Bool := decide (60 < n) || (List.range n).any (fun i => greatB (D i))
theorem any_not {p : Nat → Bool} {n : Nat} (h : ∀ j, j < n → p j = false) : (List.range n).any p = false := by
  rw [List.any_eq_false]
  intro x hx
  rw [List.mem_range] at hx
  rw [h x hx]; decide
theorem any_yes {p : Nat → Bool} {n k : Nat} (hk : k < n) (h : p k = true) : (List.range n).any p = true := List.any_eq_true.2 ⟨k, List.mem_range.2 hk, h⟩
theorem greatA_not {n : Nat} {D : Nat → Am} (h : greatA n D = false) : n ≤ 60 ∧ ∀ i, i < n → (D i).nm.length ≤ 1000 := by
  unfold greatA at h
  rw [Bool.or_eq_false_iff] at h
  refine ⟨by have := h.1; rw [decide_eq_false_iff_not] at this; omega, fun i hi => ?_⟩
  have := List.any_eq_false.1 h.2 i (List.mem_range.2 hi)
  simp at this
  exact this
theorem greatX_not {n : Nat} {D : Nat → Txx} (h : greatX n D = false) : n ≤ 60 ∧ ∀ i, i < n → greatB (D i) = false := by
  unfold greatX at h
  rw [Bool.or_eq_false_iff] at h
  refine ⟨by have := h.1; rw [decide_eq_false_iff_not] at this; omega, fun i hi => ?_⟩
  have := List.any_eq_false.1 h.2 i (List.mem_range.2 hi)
  simpa using this
set_option maxHeartbeats 1000000 in
set_option maxRecDepth 100000 in
theorem refgreat_any (A : Option Addr) (n c : Nat) (D : Nat → Am) (w : World) (h : Ams w A n D) (hn : n ≤ maxLen) : Calls Tryz.prog 5 #[.slice A n c] w (gives (.bool (greatA n D)) w) := by
  unfold maxLen at hn
  by_cases h60 : 60 < n
  · have hg : greatA n D = true := by unfold greatA; rw [decide_eq_true h60]; rfl
    rw [hg]
    clear hg
    go_enter Tryz.func5, Tryz.ntmps5
    go_wp2
    go_ret
    exact ⟨rfl, Below.refl _ _⟩
  · have HG : Hid (greatA n D = (List.range n).any (fun i => decide (1000 < (D i).nm.length))) := Lib.hid (by unfold greatA; rw [decide_eq_false h60]; rfl)
    go_enter Tryz.func5, Tryz.ntmps5
    go_wp2
    go_loopw [3] (fun i wr => ∃ k : Nat, i = .int .i64 k ∧ k ≤ n ∧ Hid (∀ j, j < k → decide (1000 < (D j).nm.length) = false) ∧ Below w.heap.size w wr) (fun i _ => n - (intOf i).toNat)
    case atStart => exact ⟨0, rfl, Nat.zero_le _, Lib.hid (fun j hj => absurd hj (by omega)), Below.refl _ _⟩
    case round =>
      obtain ⟨k, rfl, hk, hno, hbw⟩ := hrel
      by_cases hlt : k < n
      · obtain ⟨ad, rfl, hadl, c0, c1, hpl, hpi⟩ := (h.below hbw) k hlt
        have hsz := str_size (D k).nm
        by_cases hg : 1000 < (D k).nm.length
        · have HY := Lib.hid (any_yes (p := fun i => decide (1000 < (D i).nm.length)) hlt (decide_eq_true hg))
          go_wp2
          go_ret
          exact ⟨by rw [HG.out, HY.out]; rfl, hbw⟩
        · have HN : Hid (∀ j, j < k + 1 → decide (1000 < (D j).nm.length) = false) := Lib.hid fun j hj => by
            rcases Nat.lt_or_ge j k with h1 | h1
            · exact hno.out j h1
            · obtain rfl : j = k := by omega
              exact decide_eq_false hg
          go_wp2
          go_roundw
          case rel => exact ⟨k + 1, by go_num, by omega, HN, hbw⟩
          case measure => simp [intOf]; omega
      · obtain rfl : k = n := by omega
        have HN := Lib.hid (any_not hno.out)
        go_wp2
        go_ret
        exact ⟨by rw [HG.out, HN.out]; rfl, hbw⟩
set_option maxHeartbeats 1000000 in
set_option maxRecDepth 100000 in
theorem greatX_any (A : Option Addr) (n c : Nat) (D : Nat → Txx) (w : World) (h : Txs w A n D) (hn : n ≤ maxLen) : Calls Tryz.prog 6 #[.slice A n c] w (gives (.bool (greatX n D)) w) := by
  unfold maxLen at hn
  by_cases h60 : 60 < n
  · have hg : greatX n D = true := by unfold greatX; rw [decide_eq_true h60]; rfl
    rw [hg]
    clear hg
    go_enter Tryz.func6, Tryz.ntmps6
    go_wp2
    go_ret
    exact ⟨rfl, Below.refl _ _⟩
  · have HG : Hid (greatX n D = (List.range n).any (fun i => greatB (D i))) := Lib.hid (by unfold greatX; rw [decide_eq_false h60]; rfl)
    go_enter Tryz.func6, Tryz.ntmps6
    go_wp2
    go_loopw [3] (fun i wr => ∃ k : Nat, i = .int .i64 k ∧ k ≤ n ∧ Hid (∀ j, j < k → greatB (D j) = false) ∧ Below w.heap.size w wr) (fun i _ => n - (intOf i).toNat)
    case atStart => exact ⟨0, rfl, Nat.zero_le _, Lib.hid (fun j hj => absurd hj (by omega)), Below.refl _ _⟩
    case round =>
      obtain ⟨k, rfl, hk, hno, hbw⟩ := hrel
      by_cases hlt : k < n
      · obtain ⟨ad, rfl, hadl, hcs, hwf⟩ := (h.below hbw) k hlt
        have hgr := fun W => great_any (D k) W
        rcases Bool.eq_false_or_eq_true (greatB (D k)) with hg | hg
        · have HY := Lib.hid (any_yes (p := fun i => greatB (D i)) hlt hg)
          rw [hg] at hgr
          clear hg
          go_wp2_with (first
            | (refine wpList_cells_at rfl _ _ rfl (ad.add (k * 7)) rfl (txL (D k)) _ hcs Tryz.underlying40 rfl txInfo ?_)
            | (go_at_call 15; refine (hgr _).mono ?_; unfold gives; rintro e w2 ⟨rfl, hb2⟩)
            | go_in)
          go_ret
          exact ⟨by rw [HG.out, HY.out]; rfl, nxt hbw hb2⟩
        · have HN : Hid (∀ j, j < k + 1 → greatB (D j) = false) := Lib.hid fun j hj => by
            rcases Nat.lt_or_ge j k with h1 | h1
            · exact hno.out j h1
            · obtain rfl : j = k := by omega
              exact hg
          rw [hg] at hgr
          clear hg
          go_wp2_with (first
            | (refine wpList_cells_at rfl _ _ rfl (ad.add (k * 7)) rfl (txL (D k)) _ hcs Tryz.underlying40 rfl txInfo ?_)
            | (go_at_call 15; refine (hgr _).mono ?_; unfold gives; rintro e w2 ⟨rfl, hb2⟩)
            | go_in)
          go_roundw
          case rel => exact ⟨k + 1, by go_num, by omega, HN, nxt hbw hb2⟩
          case measure => simp [intOf]; omega
      · obtain rfl : k = n := by omega
        have HN := Lib.hid (any_not hno.out)
        go_wp2
        go_ret
        exact ⟨by rw [HG.out, HN.out]; rfl, hbw⟩
end Go.Proofs.YthkgadjiiapfgaaGreatDoor
