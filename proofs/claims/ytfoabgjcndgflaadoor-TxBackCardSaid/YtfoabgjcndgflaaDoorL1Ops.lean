/-
  What Add, Sub and Mul of layer 1 tell, of the code and of the document's answer: contracts of each, over any world. The world stays as it was.
-/
import Derived.Test.YtfoabgjcndgflaaDoorRows
import Derived.WalkKit
import Derived.WalkLawsBesides
import Derived.Lib.Hide
set_option linter.unusedSimpArgs false
set_option linter.unusedVariables false
namespace Go.Proofs.YtfoabgjcndgflaaDoor.L1
open Go.RowKit Go.Lib

/-- Is it from -2^62 to 2^62? -/
def al (n : Int) : Bool := decide (-4611686018427387904 ≤ n) && decide (n ≤ 4611686018427387904)
theorem al_iff {n : Int} : al n = true ↔ -4611686018427387904 ≤ n ∧ n ≤ 4611686018427387904 := by simp [al]
theorem al_not {n : Int} : al n = false ↔ n < -4611686018427387904 ∨ 4611686018427387904 < n := by
  rw [← Bool.not_eq_true, al_iff]; omega

/-- What an operation with the result n tells, where good says whether the operands may be. -/
def okv (good : Bool) (n : Int) : Int := if good && al n then n else 0
def oke (good : Bool) (n : Int) : Int := if good && al n then 0 else 10
theorem okv_yes {n : Int} (h : al n = true) : okv true n = n := by simp [okv, h]
theorem oke_yes {n : Int} (h : al n = true) : oke true n = 0 := by simp [oke, h]
theorem okv_no {n : Int} (h : al n = false) : okv true n = 0 := by simp [okv, h]
theorem oke_no {n : Int} (h : al n = false) : oke true n = 10 := by simp [oke, h]
theorem okv_bad {n : Int} : okv false n = 0 := by simp [okv]
theorem oke_bad {n : Int} : oke false n = 10 := by simp [oke]

/-- A pair of numbers, as a call returns it. -/
def two (a b : Int) : Ending := .returned (.tuple #[.int .i64 a, .int .i64 b])
theorem two_eq {a b c d : Int} (h : a = c) (k : b = d) : Ending.returned (.tuple #[.int .i64 a, .int .i64 b]) = two c d := by rw [h, k]; rfl

theorem within_any (n a b : Int) (w : World) :
    Calls Tryd.prog 46 #[.int .i64 n, .int .i64 a, .int .i64 b] w fun e w' => e = .returned (.bool (decide (a ≤ n) && decide (n ≤ b))) ∧ w = w' := by
  by_cases a : a ≤ n <;> by_cases b : n ≤ b
  all_goals
    go_enter Tryd.func46, Tryd.ntmps46
    go_wp2
    go_ret
    exact ⟨by simp [a, b], rfl⟩

theorem within_is (n a b : Int) (R : Bool) (w : World) (h : R = true ↔ a ≤ n ∧ n ≤ b) :
    Calls Tryd.prog 46 #[.int .i64 n, .int .i64 a, .int .i64 b] w fun e w' => e = .returned (.bool R) ∧ w = w' := by
  have e : R = (decide (a ≤ n) && decide (n ≤ b)) := by rw [Bool.eq_iff_iff, h]; simp
  rw [e]; exact within_any n a b w

end Go.Proofs.YtfoabgjcndgflaaDoor.L1
