/-
  What Letter and Small of layer 2 tell, of the code and of the document's answer: contracts of each, over any world. The world stays as it was.
-/
import Derived.Test.YtpppefajahbpgaaDoorRows
import Derived.WalkKit
import Derived.WalkLawsBesides
import Derived.Lib.Hide
set_option linter.unusedSimpArgs false
set_option linter.unusedVariables false
namespace Go.Proofs.YtpppefajahbpgaaDoor
open Go.RowKit Go.Lib

theorem ret_bool {a b : Bool} (h : a = b) : Ending.returned (.bool a) = .returned (.bool b) := by rw [h]
theorem ret_int {k : IntKind} {a b : Int} (h : a = b) : Ending.returned (.int k a) = .returned (.int k b) := by rw [h]
def dig (c : Int) : Bool := decide (48 ≤ c ∧ c ≤ 57)
def ltr (c : Int) : Bool := decide ((97 ≤ c ∧ c ≤ 122) ∨ (48 ≤ c ∧ c ≤ 57) ∨ c = 95 ∨ c = 45 ∨ (223 ≤ c ∧ c ≤ 255 ∧ c ≠ 247) ∨ (945 ≤ c ∧ c ≤ 969))
def grt (c : Int) : Bool := decide ((65 ≤ c ∧ c ≤ 90) ∨ (192 ≤ c ∧ c ≤ 222 ∧ c ≠ 215) ∨ (913 ≤ c ∧ c ≤ 937 ∧ c ≠ 930))
def led (c : Int) : Bool := decide (c ≠ 45 ∧ ¬ (48 ≤ c ∧ c ≤ 57))
def sml (c : Int) : Int := if grt c then c + 32 else c
theorem dig_yes {c : Int} (h : 48 ≤ c ∧ c ≤ 57) : dig c = true := decide_eq_true h
theorem dig_no {c : Int} (h : ¬ (48 ≤ c ∧ c ≤ 57)) : dig c = false := decide_eq_false h

theorem digit_any (c : Int) (w : World) : Calls Tryd.prog 30 #[.int .i32 c] w fun e w' => e = .returned (.bool (dig c)) ∧ w = w' := by
  by_cases a : 48 ≤ c <;> by_cases b : c ≤ 57
  all_goals
    go_enter Tryd.func30, Tryd.ntmps30
    go_wp2
    go_ret
    exact ⟨by simp [dig, a, b], rfl⟩
theorem letter_any (c : Int) (w : World) : Calls Tryd.prog 17 #[.int .i32 c] w fun e w' => e = .returned (.bool (ltr c)) ∧ w = w' := by
  by_cases h : 48 ≤ c ∧ c ≤ 57
  all_goals
    have D := Lib.hid h
    clear h
    go_enter Tryd.func17, Tryd.ntmps17
    go_wp2_with (go_at_call 30; refine (digit_any _ _).mono ?_; (first | rw [dig_yes D.out] | rw [dig_no D.out]); rintro e w' ⟨rfl, rfl⟩)
  all_goals
    have hd := D.out
    clear D
    go_ret
    refine ⟨ret_bool ?_, rfl⟩
    rw [Bool.eq_iff_iff]
    unfold ltr
    simp only [beq_iff_eq, beq_eq_false_iff_ne, bne_iff_ne, ne_eq, decide_eq_true_eq, Bool.false_eq_true, Bool.and_eq_true, Bool.or_eq_true, true_iff, false_iff, iff_true, iff_false] at *
    omega
theorem great_any (c : Int) (w : World) : Calls Tryd.prog 34 #[.int .i32 c] w fun e w' => e = .returned (.bool (grt c)) ∧ w = w' := by
  go_enter Tryd.func34, Tryd.ntmps34
  go_wp2
  all_goals
    go_ret
    refine ⟨ret_bool ?_, rfl⟩
    rw [Bool.eq_iff_iff]
    unfold grt
    simp only [beq_iff_eq, beq_eq_false_iff_ne, bne_iff_ne, ne_eq, decide_eq_true_eq, Bool.false_eq_true, Bool.and_eq_true, Bool.or_eq_true, true_iff, false_iff, iff_true, iff_false] at *
    omega
theorem leads_any (c : Int) (w : World) : Calls Tryd.prog 18 #[.int .i32 c] w fun e w' => e = .returned (.bool (led c)) ∧ w = w' := by
  by_cases h : 48 ≤ c ∧ c ≤ 57
  all_goals
    have D := Lib.hid h
    clear h
    go_enter Tryd.func18, Tryd.ntmps18
    go_wp2_with (go_at_call 30; refine (digit_any _ _).mono ?_; (first | rw [dig_yes D.out] | rw [dig_no D.out]); rintro e w' ⟨rfl, rfl⟩)
  all_goals
    have hd := D.out
    clear D
    go_ret
    refine ⟨ret_bool ?_, rfl⟩
    rw [Bool.eq_iff_iff]
    unfold led
    simp only [beq_iff_eq, beq_eq_false_iff_ne, bne_iff_ne, ne_eq, decide_eq_true_eq, Bool.false_eq_true, Bool.and_eq_true, Bool.or_eq_true, true_iff, false_iff, iff_true, iff_false] at *
    omega
theorem small_any (c : Int) (w : World) (h0 : -2147483648 ≤ c) (h1 : c ≤ 2147483647) : Calls Tryd.prog 23 #[.int .i32 c] w fun e w' => e = .returned (.int .i32 (sml c)) ∧ w = w' := by
  cases h : grt c
  · have D := Lib.hid h
    clear h
    go_enter Tryd.func23, Tryd.ntmps23
    go_wp2_with (go_at_call 34; refine (great_any _ _).mono ?_; rw [D.out]; rintro e w' ⟨rfl, rfl⟩)
    go_ret
    have h := D.out
    exact ⟨by unfold sml; rw [h]; rfl, rfl⟩
  · have hc : 65 ≤ c ∧ c ≤ 937 := by unfold grt at h; simp only [decide_eq_true_eq] at h; omega
    obtain ⟨c0, c1⟩ := hc
    have D := Lib.hid h
    clear h
    go_enter Tryd.func23, Tryd.ntmps23
    go_wp2_with (go_at_call 34; refine (great_any _ _).mono ?_; rw [D.out]; rintro e w' ⟨rfl, rfl⟩)
    go_ret
    have h := D.out
    exact ⟨by unfold sml; rw [h]; rfl, rfl⟩
theorem refgreat_any (c : Int) (w : World) : Calls Tryd.prog 25 #[.int .i64 c] w fun e w' => e = .returned (.bool (grt c)) ∧ w = w' := by
  go_enter Tryd.func25, Tryd.ntmps25
  go_wp2
  all_goals
    go_ret
    refine ⟨ret_bool ?_, rfl⟩
    rw [Bool.eq_iff_iff]
    unfold grt
    simp only [beq_iff_eq, beq_eq_false_iff_ne, bne_iff_ne, ne_eq, decide_eq_true_eq, Bool.false_eq_true, Bool.and_eq_true, Bool.or_eq_true, true_iff, false_iff, iff_true, iff_false] at *
    omega
theorem refletter_any (c : Int) (w : World) : Calls Tryd.prog 20 #[.int .i64 c] w fun e w' => e = .returned (.bool (ltr c)) ∧ w = w' := by
  go_enter Tryd.func20, Tryd.ntmps20
  go_wp2
  all_goals
    go_ret
    refine ⟨ret_bool ?_, rfl⟩
    rw [Bool.eq_iff_iff]
    unfold ltr
    simp only [beq_iff_eq, beq_eq_false_iff_ne, bne_iff_ne, ne_eq, decide_eq_true_eq, Bool.false_eq_true, Bool.and_eq_true, Bool.or_eq_true, true_iff, false_iff, iff_true, iff_false] at *
    first | omega | simp only [or_true, true_or]
end Go.Proofs.YtpppefajahbpgaaDoor
