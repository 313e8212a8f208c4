/-
  How many replicas make what, who leads: contracts, of the code and of the document's answer; the world stays as it was.
-/
import Derived.Test.YtglnocclhhdbbaaL3Words
import Derived.Test.YtglnocclhhdbbaaL4Bits
import Derived.LoopTactic
import Derived.Lib.Hide
import Derived.WalkSpells
import Derived.OwnWalk
import Derived.PlainAid
import Derived.Laws.BitsAllLaws
set_option linter.unusedSimpArgs false
set_option linter.unusedVariables false
namespace Go.Proofs.Ytglnocclhhdbbaa.L4
open Go.RowKit Go.Lib L3

theorem ret_bool {a b : Bool} (h : a = b) : Ending.returned (.bool a) = .returned (.bool b) := by rw [h]
/-- May so many be bad? -/
def isF (f : Int) : Bool := decide (1 ≤ f ∧ f ≤ 3)
theorem isF_mk {f : Int} (h0 : 1 ≤ f) (h1 : f ≤ 3) : isF f = true := decide_eq_true ⟨h0, h1⟩
theorem isF_not {f : Int} (h : f < 1 ∨ 3 < f) : isF f = false := decide_eq_false (by omega)
theorem isF_le {f : Int} (h : isF f = true) : 1 ≤ f ∧ f ≤ 3 := of_decide_eq_true h
theorem isF_gt {f : Int} (h : isF f = false) : f < 1 ∨ 3 < f := by have := of_decide_eq_false h; omega
/-- One more than so many times f; 0 of another f. -/
def more (t f : Int) : Int := if isF f = true then t * f + 1 else 0
theorem allowed_any (f : Int) (w : World) : Calls Try.prog 40 #[.int .i64 f] w fun e w' => e = .returned (.bool (isF f)) ∧ w = w' := by
  by_cases h0 : 1 ≤ f
  · by_cases h1 : f ≤ 3
    · have hk := isF_mk h0 h1
      go_enter Try.func40, Try.ntmps40
      go_wp2
      go_ret
      exact ⟨congrArg (fun b => Ending.returned (.bool b)) hk.symm, rfl⟩
    · have hk := isF_not (f := f) (by omega)
      go_enter Try.func40, Try.ntmps40
      go_wp2
      go_ret
      exact ⟨rfl, rfl⟩
  · have hk := isF_not (f := f) (by omega)
    go_enter Try.func40, Try.ntmps40
    go_wp2
    go_ret
    exact ⟨rfl, rfl⟩
/-- Has a set such a bit? -/
def fitsV (k : Int) : Bool := decide (0 ≤ k ∧ k < 32)
theorem fits_mk {k : Int} (h0 : 0 ≤ k) (h1 : k < 32) : fitsV k = true := decide_eq_true ⟨h0, h1⟩
theorem fits_not {k : Int} (h : k < 0 ∨ 32 ≤ k) : fitsV k = false := decide_eq_false (by omega)
theorem fits_any (k : Int) (w : World) : Calls Try.prog 32 #[.int .i64 k] w fun e w' => e = .returned (.bool (fitsV k)) ∧ w = w' := by
  by_cases h0 : 0 ≤ k
  · by_cases h1 : k < 32
    · have hk := fits_mk h0 h1
      go_enter Try.func32, Try.ntmps32
      go_wp2
      go_ret
      exact ⟨congrArg (fun b => Ending.returned (.bool b)) hk.symm, rfl⟩
    · have hk := fits_not (k := k) (by omega)
      go_enter Try.func32, Try.ntmps32
      go_wp2
      go_ret
      exact ⟨rfl, rfl⟩
  · have hk := fits_not (k := k) (by omega)
    go_enter Try.func32, Try.ntmps32
    go_wp2
    go_ret
    exact ⟨rfl, rfl⟩
theorem oneMore_any (f t : Int) (w : World) (ht : 1 ≤ t ∧ t ≤ 3) : Calls Try.prog 31 #[.int .i64 f, .int .i64 t] w fun e w' => e = .returned (.int .i64 (more t f)) ∧ w = w' := by
  rcases Bool.eq_false_or_eq_true (isF f) with h | h
  · have hf := isF_le h
    have hm : more t f = t * f + 1 := by unfold more; rw [if_pos h]
    have hb : 0 ≤ t * f ∧ t * f ≤ 9 := by
      obtain rfl | rfl | rfl : f = 1 ∨ f = 2 ∨ f = 3 := by omega
      all_goals omega
    have hw : wrap64 (t * f) = t * f := by unfold wrap64; omega
    have hw2 : wrap64 (t * f + 1) = t * f + 1 := by unfold wrap64; omega
    go_enter Try.func31, Try.ntmps31
    go_wp2_with (go_at_call 40; refine (allowed_any _ _).mono ?_; rintro e w1 ⟨rfl, rfl⟩)
    go_ret
    exact ⟨by first | rfl | (rw [hm]; rfl), rfl⟩
  · have hm : more t f = 0 := by unfold more; rw [if_neg (by rw [h]; decide)]
    go_enter Try.func31, Try.ntmps31
    go_wp2_with (go_at_call 40; refine (allowed_any _ _).mono ?_; rintro e w1 ⟨rfl, rfl⟩)
    go_ret
    exact ⟨by first | rfl | (rw [hm]; rfl), rfl⟩
theorem all_any (f : Int) (w : World) : Calls Try.prog 17 #[.int .i64 f] w fun e w' => e = .returned (.int .i64 (more 3 f)) ∧ w = w' := by
  go_enter Try.func17, Try.ntmps17
  go_wp2_with (go_at_call 31; refine (oneMore_any _ _ _ (by omega)).mono ?_; rintro e w1 ⟨rfl, rfl⟩)
  go_ret
  exact ⟨rfl, rfl⟩
/-- The document's answers. -/
theorem refall_any (f : Int) (w : World) (h0 : -9223372036854775808 ≤ f) (h1 : f ≤ 9223372036854775807) : Calls Try.prog 22 #[.int .i64 f] w fun e w' => e = .returned (.int .i64 (more 3 f)) ∧ w = w' := by
  rcases Bool.eq_false_or_eq_true (isF f) with h | h
  · have hf := isF_le h
    have hm : more 3 f = f + f + f + 1 := by unfold more; rw [if_pos h]; omega
    go_enter Try.func22, Try.ntmps22
    go_wp2
    go_ret
    exact ⟨by first | rfl | (rw [hm]; rfl), rfl⟩
  · have hm : more 3 f = 0 := by unfold more; rw [if_neg (by rw [h]; decide)]
    have hf := isF_gt h
    by_cases hlt : f < 1
    · go_enter Try.func22, Try.ntmps22
      go_wp2
      go_ret
      exact ⟨by first | rfl | (rw [hm]; rfl), rfl⟩
    · have hgt : 3 < f := by omega
      go_enter Try.func22, Try.ntmps22
      go_wp2
      go_ret
      exact ⟨by first | rfl | (rw [hm]; rfl), rfl⟩
end Go.Proofs.Ytglnocclhhdbbaa.L4
