/-
  Where a number stands in a rising list, or would: comparing, and a binary search.
-/
import Derived.Test.YtglnocclhhdbbaaRow
import Derived.WalkSpells
import Derived.LoopTactic
import Derived.Deep.RegionHeld3
import Derived.Deep.QuietTactic
import Derived.Deep.DeepCutAuto
import Derived.BigQuiet
set_option linter.unusedSimpArgs false
set_option linter.unusedVariables false
set_option maxRecDepth 10000
namespace Go.Proofs.Ytglnocclhhdbbaa
open Go.RowKit Go.Lib
open L3 (Blk Reads block_of_add add_of_add)
open L6 (Turn moreB fresh From In)

/-- How many are less. -/
def spot (L : List Wnt) (n : Int) : Nat := L.countP fun x => decide (x.n < n)
theorem spot_le (L : List Wnt) (n : Int) : spot L n ≤ L.length := List.countP_le_length
theorem rising_get {L : List Wnt} (h : risingW L) {i j : Nat} (hij : i < j) (hj : j < L.length) : (L[i]'(by omega)).n < L[j].n := List.pairwise_iff_getElem.1 h i j (by omega) hj hij
theorem spot_is {L : List Wnt} {n : Int} {i : Nat} (hi : i ≤ L.length) (h1 : ∀ t (ht : t < i), (L[t]'(by omega)).n < n) (h2 : ∀ t (h : t < L.length), i ≤ t → n ≤ L[t].n) : spot L n = i := by
  unfold spot
  conv => lhs; rw [← List.take_append_drop i L]
  rw [List.countP_append]
  have e1 : (L.take i).countP (fun x => decide (x.n < n)) = i := by
    have h : (L.take i).countP (fun x => decide (x.n < n)) = (L.take i).length := by
      rw [List.countP_eq_length]
      intro x hx
      obtain ⟨j, hj, rfl⟩ := List.getElem_of_mem hx
      rw [List.length_take] at hj
      rw [List.getElem_take]
      exact decide_eq_true (h1 j (by omega))
    rw [h, List.length_take]; omega
  have e2 : (L.drop i).countP (fun x => decide (x.n < n)) = 0 := by
    rw [List.countP_eq_zero]
    intro x hx
    obtain ⟨j, hj, rfl⟩ := List.getElem_of_mem hx
    rw [List.length_drop] at hj
    rw [List.getElem_drop]
    have := h2 (i + j) (by omega) (by omega)
    simpa using this
  omega
theorem spot_lt {L : List Wnt} (h : risingW L) {n : Int} {t : Nat} (ht : t < spot L n) : (L[t]'(by have := spot_le L n; omega)).n < n := by
  have hl := spot_le L n
  rcases (show (L[t]'(by omega)).n < n ∨ n ≤ (L[t]'(by omega)).n by omega) with h1 | h1
  · exact h1
  · have : spot L n ≤ t := by
      unfold spot
      conv => lhs; rw [← List.take_append_drop t L]
      rw [List.countP_append]
      have e2 : (L.drop t).countP (fun x => decide (x.n < n)) = 0 := by
        rw [List.countP_eq_zero]
        intro x hx
        obtain ⟨j, hj, rfl⟩ := List.getElem_of_mem hx
        rw [List.length_drop] at hj
        rw [List.getElem_drop]
        have : (L[t]'(by omega)).n ≤ (L[t + j]'(by omega)).n := by
          rcases Nat.eq_zero_or_pos j with h0 | h0
          · subst h0; exact Int.le_refl _
          · exact Int.le_of_lt (rising_get h (by omega) (by omega))
        simp; omega
      have e1 := List.countP_le_length (p := fun x : Wnt => decide (x.n < n)) (l := L.take t)
      rw [List.length_take] at e1
      omega
    omega
theorem spot_ge {L : List Wnt} (h : risingW L) {n : Int} {t : Nat} (hs : spot L n ≤ t) (ht : t < L.length) : n ≤ L[t].n := by
  rcases (show L[t].n < n ∨ n ≤ L[t].n by omega) with h1 | h1
  · have : t + 1 ≤ spot L n := by
      unfold spot
      conv => rhs; rw [← List.take_append_drop (t + 1) L]
      rw [List.countP_append]
      have e1 : (L.take (t + 1)).countP (fun x => decide (x.n < n)) = (L.take (t + 1)).length := by
        rw [List.countP_eq_length]
        intro x hx
        obtain ⟨j, hj, rfl⟩ := List.getElem_of_mem hx
        rw [List.length_take] at hj
        rw [List.getElem_take]
        refine decide_eq_true ?_
        rcases Nat.eq_or_lt_of_le (show j ≤ t by omega) with h0 | h0
        · subst h0; exact h1
        · exact Int.lt_trans (rising_get h h0 ht) h1
      rw [e1, List.length_take]
      omega
    omega
  · exact h1
theorem wanted_spot {L : List Wnt} (h : risingW L) (n : Int) : wanted L n ↔ ∃ h : spot L n < L.length, L[spot L n].n = n := by
  constructor
  · rintro ⟨x, hx, e⟩
    obtain ⟨j, hj, rfl⟩ := List.getElem_of_mem hx
    have hs : spot L n = j := spot_is (by omega) (fun t ht => by rw [← e]; exact rising_get h ht hj) (fun t ht hjt => by
      rw [← e]
      rcases Nat.eq_or_lt_of_le hjt with h0 | h0
      · subst h0; exact Int.le_refl _
      · exact Int.le_of_lt (rising_get h h0 ht))
    subst hs
    exact ⟨hj, e⟩
  · rintro ⟨hj, e⟩
    exact ⟨_, List.getElem_mem hj, e⟩

/-! Comparing -/
def cmpI (a b : Int) : Int := if a < b then -1 else if b < a then 1 else 0
theorem cmpI_neg {a b : Int} (h : a < b) : cmpI a b = -1 := if_pos h
theorem cmpI_pos {a b : Int} (h : b < a) : cmpI a b = 1 := by unfold cmpI; rw [if_neg (by omega), if_pos h]
theorem cmpI_zero {a b : Int} (h : a = b) : cmpI a b = 0 := by unfold cmpI; rw [if_neg (by omega), if_neg (by omega)]
set_option maxRecDepth 100000 in
theorem nan_any (n : Int) (w : World) : Calls Try.prog 41 #[.int .i64 n] w (gives (.bool false) w) := by
  have h : (n != n) = false := by simp
  go_enter Try.func41, Try.ntmps41
  go_wp2
  go_ret
  exact ⟨rfl, Below.refl _ _⟩
set_option maxRecDepth 100000 in
theorem compare_any (a b : Int) (w : World) : Calls Try.prog 36 #[.int .i64 a, .int .i64 b] w (gives (.int .i64 (cmpI a b)) w) := by
  have hk := fun n W => nan_any n W
  rcases (show a < b ∨ b < a ∨ a = b by omega) with h | h | h
  · rw [cmpI_neg h]
    go_enter Try.func36, Try.ntmps36
    go_wp2_with (first
      | (go_at_call 41; refine (hk _ _).mono ?_; unfold gives; rintro e w1 ⟨rfl, hb1⟩)
      | go_in)
    go_ret
    exact ⟨rfl, nxt ‹Below w.heap.size w _› ‹_›⟩
  · rw [cmpI_pos h]
    have h2 : ¬ a < b := by omega
    go_enter Try.func36, Try.ntmps36
    go_wp2_with (first
      | (go_at_call 41; refine (hk _ _).mono ?_; unfold gives; rintro e w1 ⟨rfl, hb1⟩)
      | go_in)
    go_ret
    exact ⟨rfl, nxt ‹Below w.heap.size w _› ‹_›⟩
  · rw [cmpI_zero h]
    subst h
    go_enter Try.func36, Try.ntmps36
    go_wp2_with (first
      | (go_at_call 41; refine (hk _ _).mono ?_; unfold gives; rintro e w1 ⟨rfl, hb1⟩)
      | go_in)
    go_ret
    exact ⟨rfl, nxt ‹Below w.heap.size w _› ‹_›⟩
theorem wbox_new (w : World) (ty : TypeId) (x : Wnt) : Blk (w.alloc (.cells (wnC x) ty)) w.heap.size ty (wnC x) := Blk.new _ _ _
set_option maxRecDepth 100000 in
theorem placeF_any (x : Wnt) (n : Int) (w : World) : Calls Try.prog 35 #[.agg (wnC x), .int .i64 n] w (gives (.int .i64 (cmpI x.n n)) w) := by
  have hk := fun W => compare_any x.n n W
  have hb0 := below_new w (.cells (wnC x) 63)
  have c0 : (w.alloc (.cells (wnC x) 63)).cell? ⟨w.heap.size, 0, none⟩ = some (.int .i64 x.n) := (wbox_new w _ x).cell 0
  go_enter Try.func35, Try.ntmps35
  go_wp2_with (first
    | (go_at_call 36; refine (hk _).mono ?_; unfold gives; rintro e w1 ⟨rfl, hb1⟩)
    | go_in)
  go_ret
  exact ⟨rfl, nxt hb0 hb1⟩
end Go.Proofs.Ytglnocclhhdbbaa
