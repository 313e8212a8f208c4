/-
  Sets as the bits of a number, plainly: how many, which, with one more, without the least; no program in this text.
-/
import Derived.Lib.TrailingZeros
set_option linter.unusedSimpArgs false
set_option linter.unusedVariables false
namespace Go.Proofs.Ytglnocclhhdbbaa.L4

/-- How many bits. -/
def cnt (n : Nat) : Nat := if n = 0 then 0 else n % 2 + cnt (n / 2)
termination_by n
decreasing_by omega
/-- Which bits, rising, counted from j on. -/
def bts (j n : Nat) : List Nat := if n = 0 then [] else (if n % 2 = 1 then [j] else []) ++ bts (j + 1) (n / 2)
termination_by n
decreasing_by omega
theorem cnt_zero : cnt 0 = 0 := by rw [cnt]; rfl
theorem cnt_half (n : Nat) : cnt n = n % 2 + cnt (n / 2) := by
  by_cases h : n = 0
  · subst h; simp [cnt_zero]
  · rw [cnt, if_neg h]
theorem bts_zero (j : Nat) : bts j 0 = [] := by rw [bts]; rfl
theorem bts_half (j n : Nat) : bts j n = (if n % 2 = 1 then [j] else []) ++ bts (j + 1) (n / 2) := by
  by_cases h : n = 0
  · subst h; simp [bts_zero]
  · rw [bts, if_neg h]
theorem bts_length : ∀ (n j : Nat), (bts j n).length = cnt n := by
  intro n
  induction n using Nat.strongRecOn with
  | ind n ih =>
    intro j
    by_cases h : n = 0
    · subst h; simp [bts_zero, cnt_zero]
    · rw [bts_half, cnt_half, List.length_append, ih (n / 2) (by omega)]
      by_cases h1 : n % 2 = 1
      · rw [if_pos h1, h1]; rfl
      · rw [if_neg h1, show n % 2 = 0 by omega]; rfl
theorem mem_bts : ∀ (n j i : Nat), i ∈ bts j n ↔ j ≤ i ∧ n.testBit (i - j) = true := by
  intro n
  induction n using Nat.strongRecOn with
  | ind n ih =>
    intro j i
    by_cases h : n = 0
    · subst h; simp [bts_zero]
    · rw [bts_half, List.mem_append, ih (n / 2) (by omega)]
      rcases Nat.lt_trichotomy i j with hlt | rfl | hgt
      · have : ¬ i ∈ (if n % 2 = 1 then [j] else []) := by split <;> simp; omega
        constructor
        · rintro (h | h)
          · exact absurd h this
          · omega
        · intro h; omega
      · rw [Nat.sub_self, Nat.testBit_zero]
        constructor
        · rintro (h | h)
          · split at h
            · next h1 => exact ⟨Nat.le_refl _, by simpa using h1⟩
            · cases h
          · omega
        · rintro ⟨_, h⟩
          left
          rw [if_pos (by simpa using h)]
          simp
      · have : ¬ i ∈ (if n % 2 = 1 then [j] else []) := by split <;> simp; omega
        have e : i - j = (i - (j + 1)) + 1 := by omega
        rw [e, Nat.testBit_succ]
        constructor
        · rintro (h | h)
          · exact absurd h this
          · exact ⟨by omega, h.2⟩
        · rintro ⟨_, h⟩; exact Or.inr ⟨by omega, h⟩
theorem bts_sorted : ∀ (n j : Nat), (bts j n).Pairwise (· < ·) := by
  intro n
  induction n using Nat.strongRecOn with
  | ind n ih =>
    intro j
    by_cases h : n = 0
    · subst h; rw [bts_zero]; exact List.Pairwise.nil
    · rw [bts_half, List.pairwise_append]
      refine ⟨by split <;> simp, ih (n / 2) (by omega) _, ?_⟩
      intro a ha b hb
      have hb := ((mem_bts _ _ _).1 hb).1
      split at ha
      · simp at ha; omega
      · cases ha
theorem bts_lt {n k i : Nat} (h : n < 2 ^ k) (hi : i ∈ bts 0 n) : i < k := by
  have := ((mem_bts _ _ _).1 hi).2
  rw [Nat.sub_zero] at this
  rcases Nat.lt_or_ge i k with h1 | h1
  · exact h1
  · rw [Nat.testBit_lt_two_pow (Nat.lt_of_lt_of_le h (Nat.pow_le_pow_right (by omega) h1))] at this
    cases this
theorem cnt_le : ∀ (k n : Nat), n < 2 ^ k → cnt n ≤ k := by
  intro k
  induction k with
  | zero => intro n h; have : n = 0 := by simpa using h
            subst this; simp [cnt_zero]
  | succ k ih => intro n h; rw [Nat.pow_succ] at h; rw [cnt_half]; have := ih (n / 2) (by omega); omega
theorem bts_odd (j k m : Nat) : bts j (2 ^ k * (2 * m + 1)) = (j + k) :: bts (j + k + 1) m := by
  induction k generalizing j with
  | zero =>
    rw [bts_half, Nat.pow_zero, Nat.one_mul, if_pos (by omega), show (2 * m + 1) / 2 = m by omega]; rfl
  | succ k ih =>
    have e1 : 2 ^ (k + 1) * (2 * m + 1) = 2 * (2 ^ k * (2 * m + 1)) := by rw [Nat.pow_succ, Nat.mul_comm (2 ^ k) 2, Nat.mul_assoc]
    rw [bts_half, e1, if_neg (by omega), show 2 * (2 ^ k * (2 * m + 1)) / 2 = 2 ^ k * (2 * m + 1) by omega, ih (j + 1), List.nil_append]
    rw [show j + 1 + k = j + (k + 1) by omega]
theorem bts_even (j k m : Nat) : bts j (2 ^ k * (2 * m)) = bts (j + k + 1) m := by
  induction k generalizing j with
  | zero => rw [bts_half, Nat.pow_zero, Nat.one_mul, if_neg (by omega), show 2 * m / 2 = m by omega]; rfl
  | succ k ih =>
    have e1 : 2 ^ (k + 1) * (2 * m) = 2 * (2 ^ k * (2 * m)) := by rw [Nat.pow_succ, Nat.mul_comm (2 ^ k) 2, Nat.mul_assoc]
    rw [bts_half, e1, if_neg (by omega), show 2 * (2 ^ k * (2 * m)) / 2 = 2 ^ k * (2 * m) by omega, ih (j + 1), List.nil_append]
    congr 1; omega
/-- x without its least bit. -/
theorem and_pred (k m : Nat) : 2 ^ k * (2 * m + 1) &&& (2 ^ k * (2 * m + 1) - 1) = 2 ^ k * (2 * m) := by
  have hp : 0 < 2 ^ k := Nat.two_pow_pos k
  have e : 2 ^ k * (2 * m + 1) - 1 = 2 ^ k * (2 * m) + (2 ^ k - 1) := by
    rw [Nat.mul_add, Nat.mul_one]; omega
  apply Nat.eq_of_testBit_eq
  intro i
  rw [e, Nat.testBit_and, Nat.testBit_two_pow_mul, Nat.testBit_two_pow_mul, Nat.testBit_two_pow_mul_add _ (by omega)]
  by_cases hik : k ≤ i
  · rw [if_neg (by omega)]
    simp only [ge_iff_le, hik, decide_true, Bool.true_and]
    by_cases he : i = k
    · subst he; simp
    · obtain ⟨j, hj⟩ : ∃ j, i - k = j + 1 := ⟨i - k - 1, by omega⟩
      rw [hj, Nat.testBit_succ, Nat.testBit_succ, show (2 * m + 1) / 2 = m by omega, show 2 * m / 2 = m by omega, Bool.and_self]
  · simp only [ge_iff_le, hik, decide_false, Bool.false_and]
/-- The least bit ahead, the others behind it. -/
theorem bts_rest {n : Nat} (h0 : n ≠ 0) (h : n < 4294967296) : bts 0 n = Lib.ctz 32 n :: bts 0 (n &&& (n - 1)) := by
  obtain ⟨m, hm, hk⟩ := Lib.ctzFrom_spec 32 n (by omega) h
  have e : Lib.ctz 32 n = Lib.ctzFrom 32 n := by simp [Lib.ctz, h0]
  rw [e]
  generalize Lib.ctzFrom 32 n = k at hm hk
  subst hm
  rw [bts_odd, and_pred, bts_even, Nat.zero_add]
theorem cnt_rest {n : Nat} (h0 : n ≠ 0) (h : n < 4294967296) : cnt n = cnt (n &&& (n - 1)) + 1 := by
  have := congrArg List.length (bts_rest h0 h)
  simpa [bts_length] using this
theorem rest_lt {n : Nat} (h0 : n ≠ 0) : n &&& (n - 1) < n := Nat.lt_of_le_of_lt Nat.and_le_right (by omega)

/-- Of two sets: in both and in one of them. -/
theorem cnt_and_or : ∀ a b : Nat, cnt (a &&& b) + cnt (a ||| b) = cnt a + cnt b := by
  intro a
  induction a using Nat.strongRecOn with
  | ind a ih =>
    intro b
    by_cases h : a = 0
    · subst h; simp [cnt_zero]
    · have := ih (a / 2) (by omega) (b / 2)
      rw [cnt_half (a &&& b), cnt_half (a ||| b), cnt_half a, cnt_half b, Nat.and_div_two, Nat.or_div_two]
      have h1 : (a &&& b) % 2 + (a ||| b) % 2 = a % 2 + b % 2 := by
        have e1 : (a &&& b) % 2 = (a % 2) &&& (b % 2) := by
          have := Nat.and_mod_two_pow (a := a) (b := b) (n := 1); simpa using this
        have e2 : (a ||| b) % 2 = (a % 2) ||| (b % 2) := by
          have := Nat.or_mod_two_pow (a := a) (b := b) (n := 1); simpa using this
        rw [e1, e2]
        rcases Nat.mod_two_eq_zero_or_one a with ha | ha <;> rcases Nat.mod_two_eq_zero_or_one b with hb | hb <;> rw [ha, hb] <;> rfl
      omega
theorem cnt_and_le (a b : Nat) : cnt (a &&& b) ≤ cnt b := by
  have h := cnt_and_or a b
  have h2 : cnt a ≤ cnt (a ||| b) := by
    have : ∀ a b : Nat, cnt a ≤ cnt (a ||| b) := by
      intro a
      induction a using Nat.strongRecOn with
      | ind a ih =>
        intro b
        by_cases h : a = 0
        · subst h; rw [cnt_zero]; omega
        · have := ih (a / 2) (by omega) (b / 2)
          rw [cnt_half a, cnt_half (a ||| b), Nat.or_div_two]
          have e2 : (a ||| b) % 2 = (a % 2) ||| (b % 2) := by
            have := Nat.or_mod_two_pow (a := a) (b := b) (n := 1); simpa using this
          have : a % 2 ≤ (a ||| b) % 2 := by rw [e2]; exact Nat.left_le_or
          omega
    exact this a b
  omega
/-- Of a set: what is in another one, and what isn't. -/
theorem cnt_split : ∀ (k x b : Nat), x < 2 ^ k → b < 2 ^ k → cnt (x &&& b) + cnt (x &&& (2 ^ k - 1 - b)) = cnt x := by
  intro k
  induction k with
  | zero => intro x b hx hb
            have : x = 0 := by simpa using hx
            subst this; simp [cnt_zero]
  | succ k ih =>
    intro x b hx hb
    have hp : 2 ^ (k + 1) = 2 * 2 ^ k := by rw [Nat.pow_succ]; omega
    rw [hp] at hx hb ⊢
    have := ih (x / 2) (b / 2) (by omega) (by omega)
    have e : (2 * 2 ^ k - 1 - b) / 2 = 2 ^ k - 1 - b / 2 := by omega
    rw [cnt_half (x &&& b), cnt_half (x &&& (2 * 2 ^ k - 1 - b)), cnt_half x, Nat.and_div_two, Nat.and_div_two, e]
    have h1 : (x &&& b) % 2 + (x &&& (2 * 2 ^ k - 1 - b)) % 2 = x % 2 := by
      have e1 : ∀ y, (x &&& y) % 2 = (x % 2) &&& (y % 2) := by
        intro y
        have := Nat.and_mod_two_pow (a := x) (b := y) (n := 1); simpa using this
      have e2 : (2 * 2 ^ k - 1 - b) % 2 = 1 - b % 2 := by omega
      rw [e1, e1, e2]
      rcases Nat.mod_two_eq_zero_or_one x with ha | ha <;> rcases Nat.mod_two_eq_zero_or_one b with hb | hb <;> rw [ha, hb] <;> rfl
    omega
theorem cnt_two_pow (k : Nat) : cnt (2 ^ k) = 1 := by
  have := congrArg List.length (bts_odd 0 k 0)
  simpa [bts_length, bts_zero] using this
/-- With one more. -/
theorem cnt_put (n k : Nat) : cnt (n ||| 2 ^ k) = cnt n + (if n.testBit k = true then 0 else 1) := by
  have h := cnt_and_or n (2 ^ k)
  rw [cnt_two_pow] at h
  have e : n &&& 2 ^ k = if n.testBit k = true then 2 ^ k else 0 := by
    apply Nat.eq_of_testBit_eq
    intro i
    rw [Nat.testBit_and, Nat.testBit_two_pow]
    by_cases hi : k = i
    · subst hi; cases h : n.testBit k <;> simp
    · cases h : n.testBit k <;> simp [hi, Nat.testBit_two_pow]
  rw [e] at h
  split at h
  · next h1 => rw [cnt_two_pow] at h; rw [if_pos h1]; omega
  · next h1 => rw [cnt_zero] at h; rw [if_neg h1]; omega
theorem cnt_full (k : Nat) : cnt (2 ^ k - 1) = k := by
  induction k with
  | zero => exact cnt_zero
  | succ k ih =>
    have hp := Nat.two_pow_pos k
    have e : 2 ^ (k + 1) - 1 = 2 * (2 ^ k - 1) + 1 := by rw [Nat.pow_succ]; omega
    rw [cnt_half, e, show (2 * (2 ^ k - 1) + 1) % 2 = 1 by omega, show (2 * (2 ^ k - 1) + 1) / 2 = 2 ^ k - 1 by omega, ih]; omega
/-- A set made of numbers. -/
def mk (l : List Nat) : Nat := l.foldl (fun s i => s ||| 2 ^ i) 0
theorem mk_snoc (l : List Nat) (i : Nat) : mk (l ++ [i]) = mk l ||| 2 ^ i := by simp [mk, List.foldl_append]
theorem mk_testBit (l : List Nat) (i : Nat) : (mk l).testBit i = decide (i ∈ l) := by
  have : ∀ (l : List Nat) (s : Nat), (l.foldl (fun s i => s ||| 2 ^ i) s).testBit i = (s.testBit i || decide (i ∈ l)) := by
    intro l
    induction l with
    | nil => intro s; simp
    | cons a l ih =>
      intro s
      rw [List.foldl_cons, ih, Nat.testBit_or, Nat.testBit_two_pow]
      by_cases h : a = i
      · subst h; simp
      · have h' : ¬ i = a := fun e => h e.symm
        simp [h, h']
  simpa [mk] using this l 0
theorem mk_bts (n : Nat) : mk (bts 0 n) = n := by
  apply Nat.eq_of_testBit_eq
  intro i
  rw [mk_testBit]
  have := mem_bts n 0 i
  rw [Nat.sub_zero] at this
  cases h : n.testBit i <;> simp [this, h]
theorem mk_take_lt {n k : Nat} (h : n < 2 ^ k) (j : Nat) : mk ((bts 0 n).take j) < 2 ^ k := by
  apply Nat.lt_pow_two_of_testBit
  intro i hi
  rw [mk_testBit]
  simp only [decide_eq_false_iff_not]
  intro hm
  have := bts_lt h (List.mem_of_mem_take hm)
  omega
end Go.Proofs.Ytglnocclhhdbbaa.L4
