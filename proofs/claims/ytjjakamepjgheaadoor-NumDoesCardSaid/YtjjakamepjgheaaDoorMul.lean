/-
  What Mul of layer 1 tells, of the code and of the document's answer (which reckons by halves): one contract for each, the same answer. The world stays as it was.
-/
import Derived.Test.YtjjakamepjgheaaDoorOps
set_option linter.unusedSimpArgs false
set_option linter.unusedVariables false
namespace Go.Proofs.YtjjakamepjgheaaDoor
open Go.RowKit Go.Lib

/-- The number without its sign. -/
def sz (n : Int) : Int := if 0 ≤ n then n else -n
theorem sz_nat (n : Int) : sz n = n.natAbs := by unfold sz; split <;> omega

theorem mul_over {a b : Int} (ha : a ≠ 0) : al (a * b) = false ↔ 4611686018427387904 / sz a < sz b := by
  have e : al (a * b) = false ↔ 4611686018427387904 < (a * b).natAbs := by rw [al_not]; omega
  have hp : 0 < a.natAbs := by omega
  have q : (4611686018427387904 : Int) / (a.natAbs : Int) = ((4611686018427387904 / a.natAbs : Nat) : Int) := (Int.natCast_ediv 4611686018427387904 a.natAbs).symm
  rw [e, Int.natAbs_mul, sz_nat, sz_nat, q]
  have h := Nat.div_lt_iff_lt_mul (x := 4611686018427387904) (y := b.natAbs) hp
  rw [Nat.mul_comm] at h
  exact h.symm.trans Int.ofNat_lt.symm
theorem mul_not_over {a b : Int} (ha : a ≠ 0) (h : al (a * b) = true) : ¬ 4611686018427387904 / sz a < sz b := by
  intro k; rw [(mul_over ha).2 k] at h; cases h

/-- Products by halves. -/
theorem half_eq (a b : Int) : a * b = a * (b / 2) + a * (b / 2) + a * (b % 2) := by
  rw [← Int.mul_add, ← Int.mul_add]
  congr 1
  omega
theorem half_even (a b : Int) (h : b % 2 = 0) : a * (b / 2) + a * (b / 2) = a * b := by
  have := half_eq a b; rw [h] at this; omega
theorem half_odd (a b : Int) (h : b % 2 = 1) : a * (b / 2) + a * (b / 2) + a = a * b := by
  have := half_eq a b; rw [h] at this; omega
theorem half_sign (a b : Int) (hb : 0 ≤ b) : (0 ≤ a * (b / 2) ∧ a * (b / 2) + a * (b / 2) ≤ a * b) ∨ (a * (b / 2) ≤ 0 ∧ a * b ≤ a * (b / 2) + a * (b / 2)) := by
  have e := half_eq a b
  have h2 : 0 ≤ b / 2 := by omega
  have h3 : 0 ≤ b % 2 := by omega
  by_cases h : 0 ≤ a
  · have := Int.mul_nonneg h h2
    have := Int.mul_nonneg h h3
    left; omega
  · have := Int.mul_nonneg (show 0 ≤ -a by omega) h2
    have := Int.mul_nonneg (show 0 ≤ -a by omega) h3
    rw [Int.neg_mul] at *
    right; omega
theorem half_over1 (a b : Int) (hb : 0 ≤ b) (h : al (a * (b / 2)) = false) : al (a * b) = false := by
  rw [al_not] at *; have := half_sign a b hb; omega
theorem half_over2 (a b : Int) (hb : 0 ≤ b) (h : al (a * (b / 2) + a * (b / 2)) = false) : al (a * b) = false := by
  rw [al_not] at *; have := half_sign a b hb; omega

theorem size_any (n : Int) (w : World) (h0 : -4611686018427387904 ≤ n) (h1 : n ≤ 4611686018427387904) :
    Calls Tryd.prog 23 #[.int .i64 n] w fun e w' => e = .returned (.int .i64 (sz n)) ∧ w = w' := by
  by_cases h : 0 ≤ n <;> by_cases h' : n ≤ 0
  all_goals
    go_enter Tryd.func23, Tryd.ntmps23
    go_wp2
    go_ret
    exact ⟨by unfold sz; simp [h]; try omega, rfl⟩

theorem mul_any (a b : Int) (w : World) (a0 : -9223372036854775808 ≤ a) (a1 : a ≤ 9223372036854775807) (b0 : -9223372036854775808 ≤ b) (b1 : b ≤ 9223372036854775807) :
    Calls Tryd.prog 12 #[.int .i64 a, .int .i64 b] w fun e w' => e = two (okv (al a && al b) (a * b)) (oke (al a && al b) (a * b)) ∧ w = w' := by
  cases ha : al a
  · go_enter Tryd.func12, Tryd.ntmps12
    go_wp2_with (go_at_call 21; refine (allowed_any _ _ (by omega) (by omega)).mono ?_; rintro e w' ⟨rfl, rfl⟩)
    go_ret2
    exact ⟨two_eq (by simp [okv]) (by simp [oke]), rfl⟩
  cases hb : al b
  · go_enter Tryd.func12, Tryd.ntmps12
    go_wp2_with (go_at_call 21; refine (allowed_any _ _ (by omega) (by omega)).mono ?_; rintro e w' ⟨rfl, rfl⟩)
    go_ret2
    exact ⟨two_eq (by simp [okv]) (by simp [oke]), rfl⟩
  have ra := al_iff.1 ha
  have rb := al_iff.1 hb
  obtain ⟨ra0, ra1⟩ := ra
  obtain ⟨rb0, rb1⟩ := rb
  by_cases hz : a = 0
  · subst hz
    go_enter Tryd.func12, Tryd.ntmps12
    go_wp2_with (go_at_call 21; refine (allowed_any _ _ (by omega) (by omega)).mono ?_; rintro e w' ⟨rfl, rfl⟩)
    go_ret2
    exact ⟨two_eq (by simp [okv]) (by simp [oke, al]), rfl⟩
  have hzb : (a == 0) = false := by simpa using hz
  have hzn : (a != 0) = true := by simpa using hz
  have hs1 : 1 ≤ sz a := by unfold sz; split <;> omega
  have hs2 : sz a ≤ 4611686018427387904 := by unfold sz; split <;> omega
  have hs3 : 0 ≤ sz b := by unfold sz; split <;> omega
  have hs4 : sz b ≤ 4611686018427387904 := by unfold sz; split <;> omega
  cases hs : al (a * b)
  · have hq := (mul_over hz).1 hs
    go_enter Tryd.func12, Tryd.ntmps12
    go_wp2_with (first
      | (go_at_call 21; refine (allowed_any _ _ (by omega) (by omega)).mono ?_; rintro e w' ⟨rfl, rfl⟩)
      | (go_at_call 23; refine (size_any _ _ (by omega) (by omega)).mono ?_; rintro e w' ⟨rfl, rfl⟩))
    go_ret2
    exact ⟨two_eq (by simp [okv, hs]) (by simp [oke, hs]), rfl⟩
  · have hq := mul_not_over hz hs
    have hn := al_iff.1 hs
    obtain ⟨n0, n1⟩ := hn
    go_enter Tryd.func12, Tryd.ntmps12
    go_wp2_with (first
      | (go_at_call 21; refine (allowed_any _ _ (by omega) (by omega)).mono ?_; rintro e w' ⟨rfl, rfl⟩)
      | (go_at_call 23; refine (size_any _ _ (by omega) (by omega)).mono ?_; rintro e w' ⟨rfl, rfl⟩))
    go_ret2
    exact ⟨two_eq (by simp [okv, hs]) (by simp [oke, hs]), rfl⟩

theorem refmul_up (k : Nat) : ∀ (a b : Int) (w : World), b ≤ k → 0 ≤ b → -9223372036854775808 ≤ a → a ≤ 9223372036854775807 → b ≤ 9223372036854775807 →
    Calls Tryd.prog 13 #[.int .i64 a, .int .i64 b] w fun e w' => e = two (okv (al a && al b) (a * b)) (oke (al a && al b) (a * b)) ∧ w = w' := by
  induction k with
  | zero =>
    intro a b w hk hb0 a0 a1 b1
    obtain rfl : b = 0 := by omega
    cases ha : al a
    · go_enter Tryd.func13, Tryd.ntmps13
      go_wp2_with (go_at_call 22; refine (refin_any _ _ (by omega) (by omega)).mono ?_; rintro e w' ⟨rfl, rfl⟩)
      go_ret2
      exact ⟨two_eq (by simp [okv]) (by simp [oke]), rfl⟩
    · have h0 : al 0 = true := by decide
      go_enter Tryd.func13, Tryd.ntmps13
      go_wp2_with (go_at_call 22; refine (refin_any _ _ (by omega) (by omega)).mono ?_; rintro e w' ⟨rfl, rfl⟩)
      go_ret2
      exact ⟨two_eq (by simp [okv]) (by simp [oke, h0]), rfl⟩
  | succ k ih =>
    intro a b w hk hb0 a0 a1 b1
    cases ha : al a
    · go_enter Tryd.func13, Tryd.ntmps13
      go_wp2_with (go_at_call 22; refine (refin_any _ _ (by omega) (by omega)).mono ?_; rintro e w' ⟨rfl, rfl⟩)
      go_ret2
      exact ⟨two_eq (by simp [okv]) (by simp [oke]), rfl⟩
    cases hb : al b
    · go_enter Tryd.func13, Tryd.ntmps13
      go_wp2_with (go_at_call 22; refine (refin_any _ _ (by omega) (by omega)).mono ?_; rintro e w' ⟨rfl, rfl⟩)
      go_ret2
      exact ⟨two_eq (by simp [okv]) (by simp [oke]), rfl⟩
    have ra := al_iff.1 ha
    have rb := al_iff.1 hb
    obtain ⟨ra0, ra1⟩ := ra
    obtain ⟨rb0, rb1⟩ := rb
    by_cases hz : b = 0
    · subst hz
      have h0 : al 0 = true := by decide
      go_enter Tryd.func13, Tryd.ntmps13
      go_wp2_with (go_at_call 22; refine (refin_any _ _ (by omega) (by omega)).mono ?_; rintro e w' ⟨rfl, rfl⟩)
      go_ret2
      exact ⟨two_eq (by simp [okv]) (by simp [oke, h0]), rfl⟩
    by_cases hz' : a = 0
    · subst hz'
      have h0 : al 0 = true := by decide
      have hzb : (b == 0) = false := by simpa using hz
      go_enter Tryd.func13, Tryd.ntmps13
      go_wp2_with (go_at_call 22; refine (refin_any _ _ (by omega) (by omega)).mono ?_; rintro e w' ⟨rfl, rfl⟩)
      go_ret2
      exact ⟨two_eq (by simp [okv]) (by simp [oke, h0]), rfl⟩
    have hzb : (b == 0) = false := by simpa using hz
    have hza : (a == 0) = false := by simpa using hz'
    by_cases h1 : b = 1
    · subst h1
      go_enter Tryd.func13, Tryd.ntmps13
      go_wp2_with (go_at_call 22; refine (refin_any _ _ (by omega) (by omega)).mono ?_; rintro e w' ⟨rfl, rfl⟩)
      go_ret2
      exact ⟨two_eq (by simp [okv, ha]) (by simp [oke, ha]), rfl⟩
    have hb1 : (b == 1) = false := by simpa using h1
    have hc : al (b / 2) = true := by rw [al_iff]; omega
    have hcl : b / 2 ≤ k := by omega
    have hcg : 0 ≤ b / 2 := by omega
    have hcm : b / 2 ≤ 9223372036854775807 := by omega
    cases hs1 : al (a * (b / 2))
    · have ho := half_over1 a b hb0 hs1
      have e10 : ((10 : Int) != 0) = true := by decide
      go_enter Tryd.func13, Tryd.ntmps13
      go_wp2_with (first
        | (go_at_call 22; refine (refin_any _ _ (by omega) (by omega)).mono ?_; rintro e w' ⟨rfl, rfl⟩)
        | (go_at_call 13; refine (ih _ _ _ hcl hcg a0 a1 hcm).mono ?_; rw [ha, hc, Bool.and_self, okv_no hs1, oke_no hs1]; unfold two; rintro e w' ⟨rfl, rfl⟩))
      go_ret2
      exact ⟨two_eq (by simp [okv, ho]) (by simp [oke, ho]), rfl⟩
    have rn := al_iff.1 hs1
    obtain ⟨rn0, rn1⟩ := rn
    cases hs2 : al (a * (b / 2) + a * (b / 2))
    · have ho := half_over2 a b hb0 hs2
      go_enter Tryd.func13, Tryd.ntmps13
      go_wp2_with (first
        | (go_at_call 22; refine (refin_any _ _ (by omega) (by omega)).mono ?_; rintro e w' ⟨rfl, rfl⟩)
        | (go_at_call 13; refine (ih _ _ _ hcl hcg a0 a1 hcm).mono ?_; rw [ha, hc, Bool.and_self, okv_yes hs1, oke_yes hs1]; unfold two; rintro e w' ⟨rfl, rfl⟩)
        | (go_at_call 9; refine (refadd_any _ _ _ (by omega) (by omega) (by omega) (by omega)).mono ?_; rw [hs1, Bool.and_self, okv_no hs2, oke_no hs2]; unfold two; rintro e w' ⟨rfl, rfl⟩))
      go_ret2
      exact ⟨two_eq (by simp [okv, ho]) (by simp [oke, ho]), rfl⟩
    have r2 := al_iff.1 hs2
    obtain ⟨r20, r21⟩ := r2
    have hbr : b % 2 = 0 ∨ b % 2 = 1 := by omega
    rcases hbr with hr | hr
    · have he := half_even a b hr
      have hrb : (b % 2 == 1) = false := by rw [hr]; decide
      have hs3 : al (a * b) = true := by rw [← he]; exact hs2
      have HE := Lib.hid he
      clear he hr
      go_enter Tryd.func13, Tryd.ntmps13
      go_wp2_with (first
        | (go_at_call 22; refine (refin_any _ _ (by omega) (by omega)).mono ?_; rintro e w' ⟨rfl, rfl⟩)
        | (go_at_call 13; refine (ih _ _ _ hcl hcg a0 a1 hcm).mono ?_; rw [ha, hc, Bool.and_self, okv_yes hs1, oke_yes hs1]; unfold two; rintro e w' ⟨rfl, rfl⟩)
        | (go_at_call 9; refine (refadd_any _ _ _ (by omega) (by omega) (by omega) (by omega)).mono ?_; rw [hs1, Bool.and_self, okv_yes hs2, oke_yes hs2]; unfold two; rintro e w' ⟨rfl, rfl⟩))
      go_ret2
      exact ⟨two_eq (by rw [Bool.and_self, okv_yes hs3]; exact HE.out) (by rw [Bool.and_self, oke_yes hs3]), rfl⟩
    · have he := half_odd a b hr
      have hrb : (b % 2 == 1) = true := by rw [hr]; decide
      have HE := Lib.hid he
      clear he hr
      go_enter Tryd.func13, Tryd.ntmps13
      go_wp2_with (first
        | (go_at_call 22; refine (refin_any _ _ (by omega) (by omega)).mono ?_; rintro e w' ⟨rfl, rfl⟩)
        | (go_at_call 13; refine (ih _ _ _ hcl hcg a0 a1 hcm).mono ?_; rw [ha, hc, Bool.and_self, okv_yes hs1, oke_yes hs1]; unfold two; rintro e w' ⟨rfl, rfl⟩)
        | (go_at_call 9; refine (refadd_any _ _ _ (by omega) (by omega) (by omega) (by omega)).mono ?_; (first | rw [hs1, Bool.and_self, okv_yes hs2, oke_yes hs2] | rw [hs2, ha, Bool.and_self, HE.out]); unfold two; rintro e w' ⟨rfl, rfl⟩))
      go_ret2
      exact ⟨rfl, rfl⟩

theorem okv_neg {g : Bool} {n : Int} : -okv g (-n) = okv g n := by
  have : al (-n) = al n := by rw [Bool.eq_iff_iff, al_iff, al_iff]; omega
  unfold okv; rw [this]; split <;> omega
theorem oke_neg {g : Bool} {n : Int} : oke g (-n) = oke g n := by
  have : al (-n) = al n := by rw [Bool.eq_iff_iff, al_iff, al_iff]; omega
  unfold oke; rw [this]
theorem okv_range (g : Bool) (n : Int) : -4611686018427387904 ≤ okv g n ∧ okv g n ≤ 4611686018427387904 := by
  unfold okv; split
  · rename_i h; simp at h; exact al_iff.1 h.2
  · omega

theorem refmul_any (a b : Int) (w : World) (a0 : -9223372036854775808 ≤ a) (a1 : a ≤ 9223372036854775807) (b0 : -9223372036854775808 ≤ b) (b1 : b ≤ 9223372036854775807) :
    Calls Tryd.prog 13 #[.int .i64 a, .int .i64 b] w fun e w' => e = two (okv (al a && al b) (a * b)) (oke (al a && al b) (a * b)) ∧ w = w' := by
  by_cases hb0 : 0 ≤ b
  · exact refmul_up b.toNat a b w (by omega) hb0 a0 a1 b1
  cases ha : al a
  · go_enter Tryd.func13, Tryd.ntmps13
    go_wp2_with (go_at_call 22; refine (refin_any _ _ (by omega) (by omega)).mono ?_; rintro e w' ⟨rfl, rfl⟩)
    go_ret2
    exact ⟨two_eq (by simp [okv]) (by simp [oke]), rfl⟩
  cases hb : al b
  · go_enter Tryd.func13, Tryd.ntmps13
    go_wp2_with (go_at_call 22; refine (refin_any _ _ (by omega) (by omega)).mono ?_; rintro e w' ⟨rfl, rfl⟩)
    go_ret2
    exact ⟨two_eq (by simp [okv]) (by simp [oke]), rfl⟩
  have rb := al_iff.1 hb
  obtain ⟨rb0, rb1⟩ := rb
  have hnb : al (-b) = true := by rw [al_iff]; omega
  have rv := okv_range true (a * -b)
  obtain ⟨rv0, rv1⟩ := rv
  have hlt : b < 0 := by omega
  go_enter Tryd.func13, Tryd.ntmps13
  go_wp2_with (first
    | (go_at_call 22; refine (refin_any _ _ (by omega) (by omega)).mono ?_; rintro e w' ⟨rfl, rfl⟩)
    | (go_at_call 13; refine (refmul_up (-b).toNat _ _ _ (by omega) (by omega) a0 a1 (by omega)).mono ?_; unfold two; rintro e w' ⟨rfl, rfl⟩))
  go_ret2
  exact ⟨two_eq (by rw [Int.mul_neg, okv_neg, Bool.and_self]) (by rw [Int.mul_neg, oke_neg, Bool.and_self]), rfl⟩
end Go.Proofs.YtjjakamepjgheaaDoor
