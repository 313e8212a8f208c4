/-
  What Mul of layer 1 tells, of the code and of the document's answer (which reckons by halves): one contract for each, the same answer. The world stays as it was.
-/
import Derived.Test.YtfoabgjcndgflaaDoorL1Ops
set_option linter.unusedSimpArgs false
set_option linter.unusedVariables false
namespace Go.Proofs.YtfoabgjcndgflaaDoor.L1
open Go.RowKit Go.Lib

/-- The number without its sign. -/
def sz (n : Int) : Int := if 0 ≤ n then n else -n
theorem sz_nat (n : Int) : sz n = n.natAbs := by unfold sz; split <;> omega

theorem mul_over {a b : Int} (ha : a ≠ 0) : al (a * b) = false ↔ 4611686018427387904 / sz a < sz b := by
  have e : al (a * b) = false ↔ 4611686018427387904 < (a * b).natAbs := by rw [al_not]; omega
  have hp : 0 < a.natAbs := by omega
  have q : (4611686018427387904 : Int) / (a.natAbs : Int) = ((4611686018427387904 / a.natAbs : Nat) : Int) := (Int.natCast_ediv 4611686018427387904 a.natAbs).symm
  rw [e, Int.natAbs_mul, sz_nat, sz_nat, q]
  have h := Nat.div_lt_iff_lt_mul (x := 4611686018427387904) (y := b.natAbs) hp
  rw [Nat.mul_comm] at h
  exact h.symm.trans Int.ofNat_lt.symm
theorem mul_not_over {a b : Int} (ha : a ≠ 0) (h : al (a * b) = true) : ¬ 4611686018427387904 / sz a < sz b := by
  intro k; rw [(mul_over ha).2 k] at h; cases h

/-- Products by halves. -/
theorem half_eq (a b : Int) : a * b = a * (b / 2) + a * (b / 2) + a * (b % 2) := by
  rw [← Int.mul_add, ← Int.mul_add]
  congr 1
  omega
theorem half_even (a b : Int) (h : b % 2 = 0) : a * (b / 2) + a * (b / 2) = a * b := by
  have := half_eq a b; rw [h] at this; omega
theorem half_odd (a b : Int) (h : b % 2 = 1) : a * (b / 2) + a * (b / 2) + a = a * b := by
  have := half_eq a b; rw [h] at this; omega
theorem half_sign (a b : Int) (hb : 0 ≤ b) : (0 ≤ a * (b / 2) ∧ a * (b / 2) + a * (b / 2) ≤ a * b) ∨ (a * (b / 2) ≤ 0 ∧ a * b ≤ a * (b / 2) + a * (b / 2)) := by
  have e := half_eq a b
  have h2 : 0 ≤ b / 2 := by omega
  have h3 : 0 ≤ b % 2 := by omega
  by_cases h : 0 ≤ a
  · have := Int.mul_nonneg h h2
    have := Int.mul_nonneg h h3
    left; omega
  · have := Int.mul_nonneg (show 0 ≤ -a by omega) h2
    have := Int.mul_nonneg (show 0 ≤ -a by omega) h3
    rw [Int.neg_mul] at *
    right; omega
theorem half_over1 (a b : Int) (hb : 0 ≤ b) (h : al (a * (b / 2)) = false) : al (a * b) = false := by
  rw [al_not] at *; have := half_sign a b hb; omega
theorem half_over2 (a b : Int) (hb : 0 ≤ b) (h : al (a * (b / 2) + a * (b / 2)) = false) : al (a * b) = false := by
  rw [al_not] at *; have := half_sign a b hb; omega

theorem okv_neg {g : Bool} {n : Int} : -okv g (-n) = okv g n := by
  have : al (-n) = al n := by rw [Bool.eq_iff_iff, al_iff, al_iff]; omega
  unfold okv; rw [this]; split <;> omega
theorem oke_neg {g : Bool} {n : Int} : oke g (-n) = oke g n := by
  have : al (-n) = al n := by rw [Bool.eq_iff_iff, al_iff, al_iff]; omega
  unfold oke; rw [this]
theorem okv_range (g : Bool) (n : Int) : -4611686018427387904 ≤ okv g n ∧ okv g n ≤ 4611686018427387904 := by
  unfold okv; split
  · rename_i h; simp at h; exact al_iff.1 h.2
  · omega

end Go.Proofs.YtfoabgjcndgflaaDoor.L1
