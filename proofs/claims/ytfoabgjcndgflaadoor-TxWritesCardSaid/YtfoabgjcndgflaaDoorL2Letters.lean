/-
  What Letter and Small of layer 2 tell, of the code and of the document's answer: contracts of each, over any world. The world stays as it was.
-/
import Derived.Test.YtfoabgjcndgflaaDoorRows
import Derived.WalkKit
import Derived.WalkLawsBesides
import Derived.Lib.Hide
set_option linter.unusedSimpArgs false
set_option linter.unusedVariables false
namespace Go.Proofs.YtfoabgjcndgflaaDoor.L2
open Go.RowKit Go.Lib

theorem ret_bool {a b : Bool} (h : a = b) : Ending.returned (.bool a) = .returned (.bool b) := by rw [h]
theorem ret_int {k : IntKind} {a b : Int} (h : a = b) : Ending.returned (.int k a) = .returned (.int k b) := by rw [h]
def dig (c : Int) : Bool := decide (48 ≤ c ∧ c ≤ 57)
def ltr (c : Int) : Bool := decide ((97 ≤ c ∧ c ≤ 122) ∨ (48 ≤ c ∧ c ≤ 57) ∨ c = 95 ∨ c = 45 ∨ (223 ≤ c ∧ c ≤ 255 ∧ c ≠ 247) ∨ (945 ≤ c ∧ c ≤ 969))
def grt (c : Int) : Bool := decide ((65 ≤ c ∧ c ≤ 90) ∨ (192 ≤ c ∧ c ≤ 222 ∧ c ≠ 215) ∨ (913 ≤ c ∧ c ≤ 937 ∧ c ≠ 930))
def led (c : Int) : Bool := decide (c ≠ 45 ∧ ¬ (48 ≤ c ∧ c ≤ 57))
def sml (c : Int) : Int := if grt c then c + 32 else c
theorem dig_yes {c : Int} (h : 48 ≤ c ∧ c ≤ 57) : dig c = true := decide_eq_true h
theorem dig_no {c : Int} (h : ¬ (48 ≤ c ∧ c ≤ 57)) : dig c = false := decide_eq_false h

theorem digit_any (c : Int) (w : World) : Calls Tryd.prog 58 #[.int .i32 c] w fun e w' => e = .returned (.bool (dig c)) ∧ w = w' := by
  by_cases a : 48 ≤ c <;> by_cases b : c ≤ 57
  all_goals
    go_enter Tryd.func58, Tryd.ntmps58
    go_wp2
    go_ret
    exact ⟨by simp [dig, a, b], rfl⟩
theorem letter_any (c : Int) (w : World) : Calls Tryd.prog 44 #[.int .i32 c] w fun e w' => e = .returned (.bool (ltr c)) ∧ w = w' := by
  by_cases h : 48 ≤ c ∧ c ≤ 57
  all_goals
    have D := Lib.hid h
    clear h
    go_enter Tryd.func44, Tryd.ntmps44
    go_wp2_with (go_at_call 58; refine (digit_any _ _).mono ?_; (first | rw [dig_yes D.out] | rw [dig_no D.out]); rintro e w' ⟨rfl, rfl⟩)
  all_goals
    have hd := D.out
    clear D
    go_ret
    refine ⟨ret_bool ?_, rfl⟩
    rw [Bool.eq_iff_iff]
    unfold ltr
    simp only [beq_iff_eq, beq_eq_false_iff_ne, bne_iff_ne, ne_eq, decide_eq_true_eq, Bool.false_eq_true, Bool.and_eq_true, Bool.or_eq_true, true_iff, false_iff, iff_true, iff_false] at *
    omega
theorem leads_any (c : Int) (w : World) : Calls Tryd.prog 45 #[.int .i32 c] w fun e w' => e = .returned (.bool (led c)) ∧ w = w' := by
  by_cases h : 48 ≤ c ∧ c ≤ 57
  all_goals
    have D := Lib.hid h
    clear h
    go_enter Tryd.func45, Tryd.ntmps45
    go_wp2_with (go_at_call 58; refine (digit_any _ _).mono ?_; (first | rw [dig_yes D.out] | rw [dig_no D.out]); rintro e w' ⟨rfl, rfl⟩)
  all_goals
    have hd := D.out
    clear D
    go_ret
    refine ⟨ret_bool ?_, rfl⟩
    rw [Bool.eq_iff_iff]
    unfold led
    simp only [beq_iff_eq, beq_eq_false_iff_ne, bne_iff_ne, ne_eq, decide_eq_true_eq, Bool.false_eq_true, Bool.and_eq_true, Bool.or_eq_true, true_iff, false_iff, iff_true, iff_false] at *
    omega
theorem refletter_any (c : Int) (w : World) : Calls Tryd.prog 49 #[.int .i64 c] w fun e w' => e = .returned (.bool (ltr c)) ∧ w = w' := by
  go_enter Tryd.func49, Tryd.ntmps49
  go_wp2
  all_goals
    go_ret
    refine ⟨ret_bool ?_, rfl⟩
    rw [Bool.eq_iff_iff]
    unfold ltr
    simp only [beq_iff_eq, beq_eq_false_iff_ne, bne_iff_ne, ne_eq, decide_eq_true_eq, Bool.false_eq_true, Bool.and_eq_true, Bool.or_eq_true, true_iff, false_iff, iff_true, iff_false] at *
    first | omega | simp only [or_true, true_or]
end Go.Proofs.YtfoabgjcndgflaaDoor.L2
