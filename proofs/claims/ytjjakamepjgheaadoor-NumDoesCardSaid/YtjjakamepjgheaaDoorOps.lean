/-
  What Add, Sub and Mul of layer 1 tell, of the code and of the document's answer: contracts of each, over any world. The world stays as it was.
-/
import Derived.Test.YtjjakamepjgheaaDoorRows
import Derived.WalkKit
import Derived.WalkLawsBesides
import Derived.Lib.Hide
set_option linter.unusedSimpArgs false
set_option linter.unusedVariables false
namespace Go.Proofs.YtjjakamepjgheaaDoor
open Go.RowKit Go.Lib

/-- Is it from -2^62 to 2^62? -/
def al (n : Int) : Bool := decide (-4611686018427387904 ≤ n) && decide (n ≤ 4611686018427387904)
theorem al_iff {n : Int} : al n = true ↔ -4611686018427387904 ≤ n ∧ n ≤ 4611686018427387904 := by simp [al]
theorem al_not {n : Int} : al n = false ↔ n < -4611686018427387904 ∨ 4611686018427387904 < n := by
  rw [← Bool.not_eq_true, al_iff]; omega

/-- What an operation with the result n tells, where good says whether the operands may be. -/
def okv (good : Bool) (n : Int) : Int := if good && al n then n else 0
def oke (good : Bool) (n : Int) : Int := if good && al n then 0 else 10
theorem okv_yes {n : Int} (h : al n = true) : okv true n = n := by simp [okv, h]
theorem oke_yes {n : Int} (h : al n = true) : oke true n = 0 := by simp [oke, h]
theorem okv_no {n : Int} (h : al n = false) : okv true n = 0 := by simp [okv, h]
theorem oke_no {n : Int} (h : al n = false) : oke true n = 10 := by simp [oke, h]
theorem okv_bad {n : Int} : okv false n = 0 := by simp [okv]
theorem oke_bad {n : Int} : oke false n = 10 := by simp [oke]

/-- A pair of numbers, as a call returns it. -/
def two (a b : Int) : Ending := .returned (.tuple #[.int .i64 a, .int .i64 b])
theorem two_eq {a b c d : Int} (h : a = c) (k : b = d) : Ending.returned (.tuple #[.int .i64 a, .int .i64 b]) = two c d := by rw [h, k]; rfl

theorem allowed_any (n : Int) (w : World) (h0 : -9223372036854775808 ≤ n) (h1 : n ≤ 9223372036854775807) :
    Calls Tryd.prog 21 #[.int .i64 n] w fun e w' => e = .returned (.bool (al n)) ∧ w = w' := by
  by_cases a : -4611686018427387904 ≤ n <;> by_cases b : n ≤ 4611686018427387904
  all_goals
    go_enter Tryd.func21, Tryd.ntmps21
    go_wp2
    go_ret
    exact ⟨by simp [al, a, b], rfl⟩

theorem refin_any (n : Int) (w : World) (h0 : -9223372036854775808 ≤ n) (h1 : n ≤ 9223372036854775807) :
    Calls Tryd.prog 22 #[.int .i64 n] w fun e w' => e = .returned (.bool (al n)) ∧ w = w' := by
  by_cases a : -4611686018427387904 ≤ n <;> by_cases b : n ≤ 4611686018427387904
  all_goals
    go_enter Tryd.func22, Tryd.ntmps22
    go_wp2
    go_ret
    exact ⟨by simp [al, a, b], rfl⟩

theorem within_any (n a b : Int) (w : World) :
    Calls Tryd.prog 20 #[.int .i64 n, .int .i64 a, .int .i64 b] w fun e w' => e = .returned (.bool (decide (a ≤ n) && decide (n ≤ b))) ∧ w = w' := by
  by_cases a : a ≤ n <;> by_cases b : n ≤ b
  all_goals
    go_enter Tryd.func20, Tryd.ntmps20
    go_wp2
    go_ret
    exact ⟨by simp [a, b], rfl⟩

theorem within_is (n a b : Int) (R : Bool) (w : World) (h : R = true ↔ a ≤ n ∧ n ≤ b) :
    Calls Tryd.prog 20 #[.int .i64 n, .int .i64 a, .int .i64 b] w fun e w' => e = .returned (.bool R) ∧ w = w' := by
  have e : R = (decide (a ≤ n) && decide (n ≤ b)) := by rw [Bool.eq_iff_iff, h]; simp
  rw [e]; exact within_any n a b w

theorem add_any (a b : Int) (w : World) (a0 : -9223372036854775808 ≤ a) (a1 : a ≤ 9223372036854775807) (b0 : -9223372036854775808 ≤ b) (b1 : b ≤ 9223372036854775807) :
    Calls Tryd.prog 8 #[.int .i64 a, .int .i64 b] w fun e w' => e = two (okv (al a && al b) (a + b)) (oke (al a && al b) (a + b)) ∧ w = w' := by
  cases ha : al a
  · go_enter Tryd.func8, Tryd.ntmps8
    go_wp2_with (go_at_call 21; refine (allowed_any _ _ (by omega) (by omega)).mono ?_; rintro e w' ⟨rfl, rfl⟩)
    go_ret2
    exact ⟨two_eq (by simp [okv]) (by simp [oke]), rfl⟩
  cases hb : al b
  · go_enter Tryd.func8, Tryd.ntmps8
    go_wp2_with (go_at_call 21; refine (allowed_any _ _ (by omega) (by omega)).mono ?_; rintro e w' ⟨rfl, rfl⟩)
    go_ret2
    exact ⟨two_eq (by simp [okv]) (by simp [oke]), rfl⟩
  have ra := al_iff.1 ha
  have rb := al_iff.1 hb
  obtain ⟨ra0, ra1⟩ := ra
  obtain ⟨rb0, rb1⟩ := rb
  cases hs : al (a + b)
  · by_cases h : b ≤ 0 <;> by_cases h' : 0 ≤ b
    all_goals
      go_enter Tryd.func8, Tryd.ntmps8
      go_wp2_with (first
        | (go_at_call 21; refine (allowed_any _ _ (by omega) (by omega)).mono ?_; rintro e w' ⟨rfl, rfl⟩)
        | (go_at_call 20; refine (within_is _ _ _ (al (a + b)) _ (by rw [al_iff]; omega)).mono ?_; rintro e w' ⟨rfl, rfl⟩))
      go_ret2
      exact ⟨two_eq (by simp [okv, hs]) (by simp [oke, hs]), rfl⟩
  have hn := al_iff.1 hs
  obtain ⟨n0, n1⟩ := hn
  by_cases h : b ≤ 0 <;> by_cases h' : 0 ≤ b
  all_goals
    go_enter Tryd.func8, Tryd.ntmps8
    go_wp2_with (first
      | (go_at_call 21; refine (allowed_any _ _ (by omega) (by omega)).mono ?_; rintro e w' ⟨rfl, rfl⟩)
      | (go_at_call 20; refine (within_is _ _ _ (al (a + b)) _ (by rw [al_iff]; omega)).mono ?_; rintro e w' ⟨rfl, rfl⟩))
    go_ret2
    exact ⟨two_eq (by simp [okv, hs]) (by simp [oke, hs]), rfl⟩

theorem refadd_any (a b : Int) (w : World) (a0 : -9223372036854775808 ≤ a) (a1 : a ≤ 9223372036854775807) (b0 : -9223372036854775808 ≤ b) (b1 : b ≤ 9223372036854775807) :
    Calls Tryd.prog 9 #[.int .i64 a, .int .i64 b] w fun e w' => e = two (okv (al a && al b) (a + b)) (oke (al a && al b) (a + b)) ∧ w = w' := by
  cases ha : al a
  · go_enter Tryd.func9, Tryd.ntmps9
    go_wp2_with (go_at_call 22; refine (refin_any _ _ (by omega) (by omega)).mono ?_; rintro e w' ⟨rfl, rfl⟩)
    go_ret2
    exact ⟨two_eq (by simp [okv]) (by simp [oke]), rfl⟩
  cases hb : al b
  · go_enter Tryd.func9, Tryd.ntmps9
    go_wp2_with (go_at_call 22; refine (refin_any _ _ (by omega) (by omega)).mono ?_; rintro e w' ⟨rfl, rfl⟩)
    go_ret2
    exact ⟨two_eq (by simp [okv]) (by simp [oke]), rfl⟩
  have ra := al_iff.1 ha
  have rb := al_iff.1 hb
  obtain ⟨ra0, ra1⟩ := ra
  obtain ⟨rb0, rb1⟩ := rb
  cases hs : al (a + b)
  · have hn := al_not.1 hs
    rcases hn with hn | hn
    · have hb0 : b < 0 := by omega
      have hb2 : ¬ 0 < b := by omega
      have hq : a < -4611686018427387904 - b := by omega
      go_enter Tryd.func9, Tryd.ntmps9
      go_wp2_with (go_at_call 22; refine (refin_any _ _ (by omega) (by omega)).mono ?_; rintro e w' ⟨rfl, rfl⟩)
      go_ret2
      exact ⟨two_eq (by simp [okv, hs]) (by simp [oke, hs]), rfl⟩
    · have hb0 : ¬ b < 0 := by omega
      have hb2 : 0 < b := by omega
      have hq : 4611686018427387904 - b < a := by omega
      go_enter Tryd.func9, Tryd.ntmps9
      go_wp2_with (go_at_call 22; refine (refin_any _ _ (by omega) (by omega)).mono ?_; rintro e w' ⟨rfl, rfl⟩)
      go_ret2
      exact ⟨two_eq (by simp [okv, hs]) (by simp [oke, hs]), rfl⟩
  · have hn := al_iff.1 hs
    obtain ⟨n0, n1⟩ := hn
    have hq1 : ¬ 4611686018427387904 - b < a := by omega
    have hq2 : ¬ a < -4611686018427387904 - b := by omega
    by_cases hb0 : b < 0 <;> by_cases hb2 : 0 < b
    · omega
    all_goals
      go_enter Tryd.func9, Tryd.ntmps9
      go_wp2_with (go_at_call 22; refine (refin_any _ _ (by omega) (by omega)).mono ?_; rintro e w' ⟨rfl, rfl⟩)
      go_ret2
      exact ⟨two_eq (by simp [okv, hs]) (by simp [oke, hs]), rfl⟩

theorem sub_any (a b : Int) (w : World) (a0 : -9223372036854775808 ≤ a) (a1 : a ≤ 9223372036854775807) (b0 : -9223372036854775808 ≤ b) (b1 : b ≤ 9223372036854775807) :
    Calls Tryd.prog 10 #[.int .i64 a, .int .i64 b] w fun e w' => e = two (okv (al a && al b) (a - b)) (oke (al a && al b) (a - b)) ∧ w = w' := by
  cases hb : al b
  · go_enter Tryd.func10, Tryd.ntmps10
    go_wp2_with (go_at_call 21; refine (allowed_any _ _ (by omega) (by omega)).mono ?_; rintro e w' ⟨rfl, rfl⟩)
    go_ret2
    exact ⟨two_eq (by simp [okv]) (by simp [oke]), rfl⟩
  have rb := al_iff.1 hb
  obtain ⟨rb0, rb1⟩ := rb
  have hnb : al (-b) = true := by rw [al_iff]; omega
  go_enter Tryd.func10, Tryd.ntmps10
  go_wp2_with (first
    | (go_at_call 21; refine (allowed_any _ _ (by omega) (by omega)).mono ?_; rintro e w' ⟨rfl, rfl⟩)
    | (go_at_call 8; refine (add_any _ _ _ (by omega) (by omega) (by omega) (by omega)).mono ?_; unfold two; rintro e w' ⟨rfl, rfl⟩))
  go_ret2
  exact ⟨two_eq (by simp [hnb, Int.sub_eq_add_neg]) (by simp [hnb, Int.sub_eq_add_neg]), rfl⟩

theorem refsub_any (a b : Int) (w : World) (a0 : -9223372036854775808 ≤ a) (a1 : a ≤ 9223372036854775807) (b0 : -9223372036854775808 ≤ b) (b1 : b ≤ 9223372036854775807) :
    Calls Tryd.prog 11 #[.int .i64 a, .int .i64 b] w fun e w' => e = two (okv (al a && al b) (a - b)) (oke (al a && al b) (a - b)) ∧ w = w' := by
  cases ha : al a
  · go_enter Tryd.func11, Tryd.ntmps11
    go_wp2_with (go_at_call 22; refine (refin_any _ _ (by omega) (by omega)).mono ?_; rintro e w' ⟨rfl, rfl⟩)
    go_ret2
    exact ⟨two_eq (by simp [okv]) (by simp [oke]), rfl⟩
  cases hb : al b
  · go_enter Tryd.func11, Tryd.ntmps11
    go_wp2_with (go_at_call 22; refine (refin_any _ _ (by omega) (by omega)).mono ?_; rintro e w' ⟨rfl, rfl⟩)
    go_ret2
    exact ⟨two_eq (by simp [okv]) (by simp [oke]), rfl⟩
  have ra := al_iff.1 ha
  have rb := al_iff.1 hb
  obtain ⟨ra0, ra1⟩ := ra
  obtain ⟨rb0, rb1⟩ := rb
  cases hs : al (a - b)
  · have hn := al_not.1 hs
    rcases hn with hn | hn
    · have hb0 : ¬ b < 0 := by omega
      have hb2 : 0 < b := by omega
      have hq : a < b - 4611686018427387904 := by omega
      go_enter Tryd.func11, Tryd.ntmps11
      go_wp2_with (go_at_call 22; refine (refin_any _ _ (by omega) (by omega)).mono ?_; rintro e w' ⟨rfl, rfl⟩)
      go_ret2
      exact ⟨two_eq (by simp [okv, hs]) (by simp [oke, hs]), rfl⟩
    · have hb0 : b < 0 := by omega
      have hb2 : ¬ 0 < b := by omega
      have hq : 4611686018427387904 + b < a := by omega
      go_enter Tryd.func11, Tryd.ntmps11
      go_wp2_with (go_at_call 22; refine (refin_any _ _ (by omega) (by omega)).mono ?_; rintro e w' ⟨rfl, rfl⟩)
      go_ret2
      exact ⟨two_eq (by simp [okv, hs]) (by simp [oke, hs]), rfl⟩
  · have hn := al_iff.1 hs
    obtain ⟨n0, n1⟩ := hn
    have hq1 : ¬ 4611686018427387904 + b < a := by omega
    have hq2 : ¬ a < b - 4611686018427387904 := by omega
    by_cases hb0 : b < 0 <;> by_cases hb2 : 0 < b
    · omega
    all_goals
      go_enter Tryd.func11, Tryd.ntmps11
      go_wp2_with (go_at_call 22; refine (refin_any _ _ (by omega) (by omega)).mono ?_; rintro e w' ⟨rfl, rfl⟩)
      go_ret2
      exact ⟨two_eq (by simp [okv, hs]) (by simp [oke, hs]), rfl⟩
end Go.Proofs.YtjjakamepjgheaaDoor
