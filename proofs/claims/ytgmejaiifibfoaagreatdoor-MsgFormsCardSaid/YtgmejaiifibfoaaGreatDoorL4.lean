/-
  Texts of one layer in one: L4Bits, L4Ops, L4Sets, L4List, L4RefSets.
-/
import Derived.Lib.TrailingZeros
import Derived.Test.YtgmejaiifibfoaaGreatDoorL3
import Derived.LoopTactic
import Derived.Lib.Hide
import Derived.WalkSpells
import Derived.OwnWalk
import Derived.PlainAid
import Derived.Laws.BitsAllLaws
import Derived.Lib.BufSteps
import Derived.Deep.RegionWith
import Derived.Deep.QuietTactic

/-
  Sets as the bits of a number, plainly: how many, which, with one more, without the least; no program in this text.
-/
set_option linter.unusedSimpArgs false
set_option linter.unusedVariables false
namespace Go.Proofs.YtgmejaiifibfoaaGreatDoor.L4

/-- How many bits. -/
def cnt (n : Nat) : Nat := if n = 0 then 0 else n % 2 + cnt (n / 2)
termination_by n
decreasing_by omega
/-- Which bits, rising, counted from j on. -/
def bts (j n : Nat) : List Nat := if n = 0 then [] else (if n % 2 = 1 then [j] else []) ++ bts (j + 1) (n / 2)
termination_by n
decreasing_by omega
theorem cnt_zero : cnt 0 = 0 := by rw [cnt]; rfl
theorem cnt_half (n : Nat) : cnt n = n % 2 + cnt (n / 2) := by
  by_cases h : n = 0
  · subst h; simp [cnt_zero]
  · rw [cnt, if_neg h]
theorem bts_zero (j : Nat) : bts j 0 = [] := by rw [bts]; rfl
theorem bts_half (j n : Nat) : bts j n = (if n % 2 = 1 then [j] else []) ++ bts (j + 1) (n / 2) := by
  by_cases h : n = 0
  · subst h; simp [bts_zero]
  · rw [bts, if_neg h]
theorem bts_length : ∀ (n j : Nat), (bts j n).length = cnt n := by
  intro n
  induction n using Nat.strongRecOn with
  | ind n ih =>
    intro j
    by_cases h : n = 0
    · subst h; simp [bts_zero, cnt_zero]
    · rw [bts_half, cnt_half, List.length_append, ih (n / 2) (by omega)]
      by_cases h1 : n % 2 = 1
      · rw [if_pos h1, h1]; rfl
      · rw [if_neg h1, show n % 2 = 0 by omega]; rfl
theorem mem_bts : ∀ (n j i : Nat), i ∈ bts j n ↔ j ≤ i ∧ n.testBit (i - j) = true := by
  intro n
  induction n using Nat.strongRecOn with
  | ind n ih =>
    intro j i
    by_cases h : n = 0
    · subst h; simp [bts_zero]
    · rw [bts_half, List.mem_append, ih (n / 2) (by omega)]
      rcases Nat.lt_trichotomy i j with hlt | rfl | hgt
      · have : ¬ i ∈ (if n % 2 = 1 then [j] else []) := by split <;> simp; omega
        constructor
        · rintro (h | h)
          · exact absurd h this
          · omega
        · intro h; omega
      · rw [Nat.sub_self, Nat.testBit_zero]
        constructor
        · rintro (h | h)
          · split at h
            · next h1 => exact ⟨Nat.le_refl _, by simpa using h1⟩
            · cases h
          · omega
        · rintro ⟨_, h⟩
          left
          rw [if_pos (by simpa using h)]
          simp
      · have : ¬ i ∈ (if n % 2 = 1 then [j] else []) := by split <;> simp; omega
        have e : i - j = (i - (j + 1)) + 1 := by omega
        rw [e, Nat.testBit_succ]
        constructor
        · rintro (h | h)
          · exact absurd h this
          · exact ⟨by omega, h.2⟩
        · rintro ⟨_, h⟩; exact Or.inr ⟨by omega, h⟩
theorem bts_sorted : ∀ (n j : Nat), (bts j n).Pairwise (· < ·) := by
  intro n
  induction n using Nat.strongRecOn with
  | ind n ih =>
    intro j
    by_cases h : n = 0
    · subst h; rw [bts_zero]; exact List.Pairwise.nil
    · rw [bts_half, List.pairwise_append]
      refine ⟨by split <;> simp, ih (n / 2) (by omega) _, ?_⟩
      intro a ha b hb
      have hb := ((mem_bts _ _ _).1 hb).1
      split at ha
      · simp at ha; omega
      · cases ha
theorem bts_lt {n k i : Nat} (h : n < 2 ^ k) (hi : i ∈ bts 0 n) : i < k := by
  have := ((mem_bts _ _ _).1 hi).2
  rw [Nat.sub_zero] at this
  rcases Nat.lt_or_ge i k with h1 | h1
  · exact h1
  · rw [Nat.testBit_lt_two_pow (Nat.lt_of_lt_of_le h (Nat.pow_le_pow_right (by omega) h1))] at this
    cases this
theorem cnt_le : ∀ (k n : Nat), n < 2 ^ k → cnt n ≤ k := by
  intro k
  induction k with
  | zero => intro n h; have : n = 0 := by simpa using h
            subst this; simp [cnt_zero]
  | succ k ih => intro n h; rw [Nat.pow_succ] at h; rw [cnt_half]; have := ih (n / 2) (by omega); omega
theorem bts_odd (j k m : Nat) : bts j (2 ^ k * (2 * m + 1)) = (j + k) :: bts (j + k + 1) m := by
  induction k generalizing j with
  | zero =>
    rw [bts_half, Nat.pow_zero, Nat.one_mul, if_pos (by omega), show (2 * m + 1) / 2 = m by omega]; rfl
  | succ k ih =>
    have e1 : 2 ^ (k + 1) * (2 * m + 1) = 2 * (2 ^ k * (2 * m + 1)) := by rw [Nat.pow_succ, Nat.mul_comm (2 ^ k) 2, Nat.mul_assoc]
    rw [bts_half, e1, if_neg (by omega), show 2 * (2 ^ k * (2 * m + 1)) / 2 = 2 ^ k * (2 * m + 1) by omega, ih (j + 1), List.nil_append]
    rw [show j + 1 + k = j + (k + 1) by omega]
theorem bts_even (j k m : Nat) : bts j (2 ^ k * (2 * m)) = bts (j + k + 1) m := by
  induction k generalizing j with
  | zero => rw [bts_half, Nat.pow_zero, Nat.one_mul, if_neg (by omega), show 2 * m / 2 = m by omega]; rfl
  | succ k ih =>
    have e1 : 2 ^ (k + 1) * (2 * m) = 2 * (2 ^ k * (2 * m)) := by rw [Nat.pow_succ, Nat.mul_comm (2 ^ k) 2, Nat.mul_assoc]
    rw [bts_half, e1, if_neg (by omega), show 2 * (2 ^ k * (2 * m)) / 2 = 2 ^ k * (2 * m) by omega, ih (j + 1), List.nil_append]
    congr 1; omega
/-- x without its least bit. -/
theorem and_pred (k m : Nat) : 2 ^ k * (2 * m + 1) &&& (2 ^ k * (2 * m + 1) - 1) = 2 ^ k * (2 * m) := by
  have hp : 0 < 2 ^ k := Nat.two_pow_pos k
  have e : 2 ^ k * (2 * m + 1) - 1 = 2 ^ k * (2 * m) + (2 ^ k - 1) := by
    rw [Nat.mul_add, Nat.mul_one]; omega
  apply Nat.eq_of_testBit_eq
  intro i
  rw [e, Nat.testBit_and, Nat.testBit_two_pow_mul, Nat.testBit_two_pow_mul, Nat.testBit_two_pow_mul_add _ (by omega)]
  by_cases hik : k ≤ i
  · rw [if_neg (by omega)]
    simp only [ge_iff_le, hik, decide_true, Bool.true_and]
    by_cases he : i = k
    · subst he; simp
    · obtain ⟨j, hj⟩ : ∃ j, i - k = j + 1 := ⟨i - k - 1, by omega⟩
      rw [hj, Nat.testBit_succ, Nat.testBit_succ, show (2 * m + 1) / 2 = m by omega, show 2 * m / 2 = m by omega, Bool.and_self]
  · simp only [ge_iff_le, hik, decide_false, Bool.false_and]
/-- The least bit ahead, the others behind it. -/
theorem bts_rest {n : Nat} (h0 : n ≠ 0) (h : n < 4294967296) : bts 0 n = Lib.ctz 32 n :: bts 0 (n &&& (n - 1)) := by
  obtain ⟨m, hm, hk⟩ := Lib.ctzFrom_spec 32 n (by omega) h
  have e : Lib.ctz 32 n = Lib.ctzFrom 32 n := by simp [Lib.ctz, h0]
  rw [e]
  generalize Lib.ctzFrom 32 n = k at hm hk
  subst hm
  rw [bts_odd, and_pred, bts_even, Nat.zero_add]
theorem cnt_rest {n : Nat} (h0 : n ≠ 0) (h : n < 4294967296) : cnt n = cnt (n &&& (n - 1)) + 1 := by
  have := congrArg List.length (bts_rest h0 h)
  simpa [bts_length] using this
theorem rest_lt {n : Nat} (h0 : n ≠ 0) : n &&& (n - 1) < n := Nat.lt_of_le_of_lt Nat.and_le_right (by omega)

/-- Of two sets: in both and in one of them. -/
theorem cnt_and_or : ∀ a b : Nat, cnt (a &&& b) + cnt (a ||| b) = cnt a + cnt b := by
  intro a
  induction a using Nat.strongRecOn with
  | ind a ih =>
    intro b
    by_cases h : a = 0
    · subst h; simp [cnt_zero]
    · have := ih (a / 2) (by omega) (b / 2)
      rw [cnt_half (a &&& b), cnt_half (a ||| b), cnt_half a, cnt_half b, Nat.and_div_two, Nat.or_div_two]
      have h1 : (a &&& b) % 2 + (a ||| b) % 2 = a % 2 + b % 2 := by
        have e1 : (a &&& b) % 2 = (a % 2) &&& (b % 2) := by
          have := Nat.and_mod_two_pow (a := a) (b := b) (n := 1); simpa using this
        have e2 : (a ||| b) % 2 = (a % 2) ||| (b % 2) := by
          have := Nat.or_mod_two_pow (a := a) (b := b) (n := 1); simpa using this
        rw [e1, e2]
        rcases Nat.mod_two_eq_zero_or_one a with ha | ha <;> rcases Nat.mod_two_eq_zero_or_one b with hb | hb <;> rw [ha, hb] <;> rfl
      omega
theorem cnt_and_le (a b : Nat) : cnt (a &&& b) ≤ cnt b := by
  have h := cnt_and_or a b
  have h2 : cnt a ≤ cnt (a ||| b) := by
    have : ∀ a b : Nat, cnt a ≤ cnt (a ||| b) := by
      intro a
      induction a using Nat.strongRecOn with
      | ind a ih =>
        intro b
        by_cases h : a = 0
        · subst h; rw [cnt_zero]; omega
        · have := ih (a / 2) (by omega) (b / 2)
          rw [cnt_half a, cnt_half (a ||| b), Nat.or_div_two]
          have e2 : (a ||| b) % 2 = (a % 2) ||| (b % 2) := by
            have := Nat.or_mod_two_pow (a := a) (b := b) (n := 1); simpa using this
          have : a % 2 ≤ (a ||| b) % 2 := by rw [e2]; exact Nat.left_le_or
          omega
    exact this a b
  omega
/-- Of a set: what is in another one, and what isn't. -/
theorem cnt_split : ∀ (k x b : Nat), x < 2 ^ k → b < 2 ^ k → cnt (x &&& b) + cnt (x &&& (2 ^ k - 1 - b)) = cnt x := by
  intro k
  induction k with
  | zero => intro x b hx hb
            have : x = 0 := by simpa using hx
            subst this; simp [cnt_zero]
  | succ k ih =>
    intro x b hx hb
    have hp : 2 ^ (k + 1) = 2 * 2 ^ k := by rw [Nat.pow_succ]; omega
    rw [hp] at hx hb ⊢
    have := ih (x / 2) (b / 2) (by omega) (by omega)
    have e : (2 * 2 ^ k - 1 - b) / 2 = 2 ^ k - 1 - b / 2 := by omega
    rw [cnt_half (x &&& b), cnt_half (x &&& (2 * 2 ^ k - 1 - b)), cnt_half x, Nat.and_div_two, Nat.and_div_two, e]
    have h1 : (x &&& b) % 2 + (x &&& (2 * 2 ^ k - 1 - b)) % 2 = x % 2 := by
      have e1 : ∀ y, (x &&& y) % 2 = (x % 2) &&& (y % 2) := by
        intro y
        have := Nat.and_mod_two_pow (a := x) (b := y) (n := 1); simpa using this
      have e2 : (2 * 2 ^ k - 1 - b) % 2 = 1 - b % 2 := by omega
      rw [e1, e1, e2]
      rcases Nat.mod_two_eq_zero_or_one x with ha | ha <;> rcases Nat.mod_two_eq_zero_or_one b with hb | hb <;> rw [ha, hb] <;> rfl
    omega
theorem cnt_two_pow (k : Nat) : cnt (2 ^ k) = 1 := by
  have := congrArg List.length (bts_odd 0 k 0)
  simpa [bts_length, bts_zero] using this
/-- With one more. -/
theorem cnt_put (n k : Nat) : cnt (n ||| 2 ^ k) = cnt n + (if n.testBit k = true then 0 else 1) := by
  have h := cnt_and_or n (2 ^ k)
  rw [cnt_two_pow] at h
  have e : n &&& 2 ^ k = if n.testBit k = true then 2 ^ k else 0 := by
    apply Nat.eq_of_testBit_eq
    intro i
    rw [Nat.testBit_and, Nat.testBit_two_pow]
    by_cases hi : k = i
    · subst hi; cases h : n.testBit k <;> simp
    · cases h : n.testBit k <;> simp [hi, Nat.testBit_two_pow]
  rw [e] at h
  split at h
  · next h1 => rw [cnt_two_pow] at h; rw [if_pos h1]; omega
  · next h1 => rw [cnt_zero] at h; rw [if_neg h1]; omega
theorem cnt_full (k : Nat) : cnt (2 ^ k - 1) = k := by
  induction k with
  | zero => exact cnt_zero
  | succ k ih =>
    have hp := Nat.two_pow_pos k
    have e : 2 ^ (k + 1) - 1 = 2 * (2 ^ k - 1) + 1 := by rw [Nat.pow_succ]; omega
    rw [cnt_half, e, show (2 * (2 ^ k - 1) + 1) % 2 = 1 by omega, show (2 * (2 ^ k - 1) + 1) / 2 = 2 ^ k - 1 by omega, ih]; omega
/-- A set made of numbers. -/
def mk (l : List Nat) : Nat := l.foldl (fun s i => s ||| 2 ^ i) 0
theorem mk_snoc (l : List Nat) (i : Nat) : mk (l ++ [i]) = mk l ||| 2 ^ i := by simp [mk, List.foldl_append]
theorem mk_testBit (l : List Nat) (i : Nat) : (mk l).testBit i = decide (i ∈ l) := by
  have : ∀ (l : List Nat) (s : Nat), (l.foldl (fun s i => s ||| 2 ^ i) s).testBit i = (s.testBit i || decide (i ∈ l)) := by
    intro l
    induction l with
    | nil => intro s; simp
    | cons a l ih =>
      intro s
      rw [List.foldl_cons, ih, Nat.testBit_or, Nat.testBit_two_pow]
      by_cases h : a = i
      · subst h; simp
      · have h' : ¬ i = a := fun e => h e.symm
        simp [h, h']
  simpa [mk] using this l 0
theorem mk_bts (n : Nat) : mk (bts 0 n) = n := by
  apply Nat.eq_of_testBit_eq
  intro i
  rw [mk_testBit]
  have := mem_bts n 0 i
  rw [Nat.sub_zero] at this
  cases h : n.testBit i <;> simp [this, h]
theorem mk_take_lt {n k : Nat} (h : n < 2 ^ k) (j : Nat) : mk ((bts 0 n).take j) < 2 ^ k := by
  apply Nat.lt_pow_two_of_testBit
  intro i hi
  rw [mk_testBit]
  simp only [decide_eq_false_iff_not]
  intro hm
  have := bts_lt h (List.mem_of_mem_take hm)
  omega
end Go.Proofs.YtgmejaiifibfoaaGreatDoor.L4

/-
  How many replicas make what, who leads: contracts, of the code and of the document's answer; the world stays as it was.
-/
set_option linter.unusedSimpArgs false
set_option linter.unusedVariables false
namespace Go.Proofs.YtgmejaiifibfoaaGreatDoor.L4
open Go.RowKit Go.Lib

theorem ret_bool {a b : Bool} (h : a = b) : Ending.returned (.bool a) = .returned (.bool b) := by rw [h]
/-- May so many be bad? -/
def isF (f : Int) : Bool := decide (1 ≤ f ∧ f ≤ 3)
theorem isF_mk {f : Int} (h0 : 1 ≤ f) (h1 : f ≤ 3) : isF f = true := decide_eq_true ⟨h0, h1⟩
theorem isF_not {f : Int} (h : f < 1 ∨ 3 < f) : isF f = false := decide_eq_false (by omega)
theorem isF_le {f : Int} (h : isF f = true) : 1 ≤ f ∧ f ≤ 3 := of_decide_eq_true h
theorem isF_gt {f : Int} (h : isF f = false) : f < 1 ∨ 3 < f := by have := of_decide_eq_false h; omega
/-- One more than so many times f; 0 of another f. -/
def more (t f : Int) : Int := if isF f = true then t * f + 1 else 0
theorem allowed_any (f : Int) (w : World) : Calls Tryz.prog 86 #[.int .i64 f] w fun e w' => e = .returned (.bool (isF f)) ∧ w = w' := by
  by_cases h0 : 1 ≤ f
  · by_cases h1 : f ≤ 3
    · have hk := isF_mk h0 h1
      go_enter Tryz.func86, Tryz.ntmps86
      go_wp2
      go_ret
      exact ⟨congrArg (fun b => Ending.returned (.bool b)) hk.symm, rfl⟩
    · have hk := isF_not (f := f) (by omega)
      go_enter Tryz.func86, Tryz.ntmps86
      go_wp2
      go_ret
      exact ⟨rfl, rfl⟩
  · have hk := isF_not (f := f) (by omega)
    go_enter Tryz.func86, Tryz.ntmps86
    go_wp2
    go_ret
    exact ⟨rfl, rfl⟩
/-- Has a set such a bit? -/
def fitsV (k : Int) : Bool := decide (0 ≤ k ∧ k < 32)
theorem fits_mk {k : Int} (h0 : 0 ≤ k) (h1 : k < 32) : fitsV k = true := decide_eq_true ⟨h0, h1⟩
theorem fits_not {k : Int} (h : k < 0 ∨ 32 ≤ k) : fitsV k = false := decide_eq_false (by omega)
theorem oneMore_any (f t : Int) (w : World) (ht : 1 ≤ t ∧ t ≤ 3) : Calls Tryz.prog 127 #[.int .i64 f, .int .i64 t] w fun e w' => e = .returned (.int .i64 (more t f)) ∧ w = w' := by
  rcases Bool.eq_false_or_eq_true (isF f) with h | h
  · have hf := isF_le h
    have hm : more t f = t * f + 1 := by unfold more; rw [if_pos h]
    have hb : 0 ≤ t * f ∧ t * f ≤ 9 := by
      obtain rfl | rfl | rfl : f = 1 ∨ f = 2 ∨ f = 3 := by omega
      all_goals omega
    have hw : wrap64 (t * f) = t * f := by unfold wrap64; omega
    have hw2 : wrap64 (t * f + 1) = t * f + 1 := by unfold wrap64; omega
    go_enter Tryz.func127, Tryz.ntmps127
    go_wp2_with (go_at_call 86; refine (allowed_any _ _).mono ?_; rintro e w1 ⟨rfl, rfl⟩)
    go_ret
    exact ⟨by first | rfl | (rw [hm]; rfl), rfl⟩
  · have hm : more t f = 0 := by unfold more; rw [if_neg (by rw [h]; decide)]
    go_enter Tryz.func127, Tryz.ntmps127
    go_wp2_with (go_at_call 86; refine (allowed_any _ _).mono ?_; rintro e w1 ⟨rfl, rfl⟩)
    go_ret
    exact ⟨by first | rfl | (rw [hm]; rfl), rfl⟩
theorem all_any (f : Int) (w : World) : Calls Tryz.prog 115 #[.int .i64 f] w fun e w' => e = .returned (.int .i64 (more 3 f)) ∧ w = w' := by
  go_enter Tryz.func115, Tryz.ntmps115
  go_wp2_with (go_at_call 127; refine (oneMore_any _ _ _ (by omega)).mono ?_; rintro e w1 ⟨rfl, rfl⟩)
  go_ret
  exact ⟨rfl, rfl⟩
end Go.Proofs.YtgmejaiifibfoaaGreatDoor.L4

/-
  Sets: has, with one more, all, without the least, how many, the least's number; who leads: contracts of the code; the world stays as it was.
-/
set_option linter.unusedSimpArgs false
set_option linter.unusedVariables false
namespace Go.Proofs.YtgmejaiifibfoaaGreatDoor.L4
open Go.RowKit Go.Lib

theorem pow_lt32 {k : Nat} (hk : k < 32) : 2 ^ k < 4294967296 := Nat.lt_of_le_of_lt (Nat.pow_le_pow_right (by omega) (show k ≤ 31 by omega)) (by omega)
theorem shl_is {k : Nat} (hk : k < 32) : (2 : Int) ^ k % 4294967296 = ((2 ^ k : Nat) : Int) := by
  have h := pow_lt32 hk
  have e : (2 : Int) ^ k = ((2 ^ k : Nat) : Int) := by simp
  rw [e]
  generalize (2 : Nat) ^ k = y at h
  omega
theorem and_is (n k : Nat) (hn : n < 4294967296) (hk : k < 32) : bits BinOp.and IntKind.u32 (n : Int) ((2 : Int) ^ k % 4294967296) = ((n &&& 2 ^ k : Nat) : Int) := by
  rw [shl_is hk, u32_and_nat n _ hn (pow_lt32 hk)]
theorem or_is (n k : Nat) (hn : n < 4294967296) (hk : k < 32) : bits BinOp.or IntKind.u32 (n : Int) ((2 : Int) ^ k % 4294967296) = ((n ||| 2 ^ k : Nat) : Int) := by
  rw [shl_is hk, u32_or_nat n _ hn (pow_lt32 hk)]
theorem or_lt {n k : Nat} (hn : n < 4294967296) (hk : k < 32) : n ||| 2 ^ k < 4294967296 := Nat.or_lt_two_pow (n := 32) hn (pow_lt32 hk)
theorem more_is (f : Int) : ∃ m : Nat, more 3 f = (m : Int) ∧ m ≤ 10 := by
  unfold more
  split
  · next h => have := isF_le h; exact ⟨(3 * f + 1).toNat, by omega, by omega⟩
  · exact ⟨0, rfl, by omega⟩

/-- Is bit k in it? -/
def hasV (n : Nat) (k : Int) : Bool := fitsV k && n.testBit k.toNat
theorem and_pow (n k : Nat) : n &&& 2 ^ k = if n.testBit k = true then 2 ^ k else 0 := by
  apply Nat.eq_of_testBit_eq
  intro i
  rw [Nat.testBit_and, Nat.testBit_two_pow]
  by_cases hi : k = i
  · subst hi; cases h : n.testBit k <;> simp
  · cases h : n.testBit k <;> simp [hi, Nat.testBit_two_pow]
theorem full_any (f : Int) (w : World) : Calls Tryz.prog 87 #[.int .i64 f] w fun e w' => e = .returned (.int .u32 ((2 ^ (more 3 f).toNat - 1 : Nat) : Int)) ∧ w = w' := by
  have ha := all_any f
  obtain ⟨m, hm, hm10⟩ := more_is f
  rw [hm] at ha
  have hp := pow_lt32 (k := m) (by omega)
  have hp0 := Nat.two_pow_pos m
  have hs := shl_is (k := m) (by omega)
  obtain ⟨y, hy⟩ : ∃ y, y = 2 ^ m := ⟨_, rfl⟩
  rw [← hy] at hp hp0 hs
  have HM := Lib.hid hm
  have HY := Lib.hid hy
  have HA := Lib.hid ha
  clear hm ha hy
  go_enter Tryz.func87, Tryz.ntmps87
  go_wp2_with (go_at_call 115; refine (HA.out _).mono ?_; rintro e w1 ⟨rfl, rfl⟩)
  go_ret
  exact ⟨by rw [HM.out, Int.toNat_natCast, ← HY.out, show ((y - 1 : Nat) : Int) = (y : Int) - 1 by omega]; rfl, rfl⟩
theorem rest_any (n : Nat) (w : World) (h0 : n ≠ 0) (hn : n < 4294967296) : Calls Tryz.prog 105 #[.int .u32 n] w fun e w' => e = .returned (.int .u32 (n &&& (n - 1) : Nat)) ∧ w = w' := by
  have hb : bits BinOp.and IntKind.u32 (n : Int) ((n : Int) - 1) = ((n &&& (n - 1) : Nat) : Int) := by
    rw [show (n : Int) - 1 = ((n - 1 : Nat) : Int) by omega, u32_and_nat n _ hn (by omega)]
  go_enter Tryz.func105, Tryz.ntmps105
  go_wp2
  go_ret
  exact ⟨by first | rfl | (rw [← hb]; rfl), rfl⟩
/-- Who leads. -/
def leadV (f r : Int) : Int := if isF f = true then r % (3 * f + 1) else 0
theorem tmod_emod (r n : Int) : r.tmod n % n = r % n := by rw [Int.tmod_def, Int.sub_mul_emod_self_left]
theorem tmod_in (r n : Int) (hn : 0 < n) : -n < r.tmod n ∧ r.tmod n < n := ⟨Int.lt_tmod_of_pos r hn, Int.tmod_lt_of_pos r hn⟩
theorem lead_pos {f : Int} (r : Int) (h : isF f = true) : leadV f r = (r.tmod (3 * f + 1) + (3 * f + 1)) % (3 * f + 1) := by
  have hf := isF_le h
  have hi := tmod_in r (3 * f + 1) (by omega)
  rw [Int.add_emod_right, tmod_emod]
  unfold leadV; rw [if_pos h]
theorem lead_neg {f : Int} (r : Int) (h : isF f = true) : leadV f r = if r.tmod (3 * f + 1) < 0 then r.tmod (3 * f + 1) + (3 * f + 1) else r.tmod (3 * f + 1) := by
  have hf := isF_le h
  have hi := tmod_in r (3 * f + 1) (by omega)
  rw [lead_pos r h, Int.add_emod_right]
  split
  · rw [← Int.add_emod_right]; exact Int.emod_eq_of_lt (by omega) (by omega)
  · exact Int.emod_eq_of_lt (by omega) (by omega)
set_option maxHeartbeats 1000000 in
theorem count_any (n : Nat) (w : World) (hn : n < 4294967296) : Calls Tryz.prog 73 #[.int .u32 n] w fun e w' => e = .returned (.int .i64 (cnt n)) ∧ w = w' := by
  go_enter Tryz.func73, Tryz.ntmps73
  go_wp2
  go_loop [0, 3] (fun a b => ∃ m c : Nat, a = .int .u32 m ∧ b = .int .i64 c ∧ m < 4294967296 ∧ c ≤ 32 ∧ c + cnt m = cnt n) (fun a _ => (intOf a).toNat)
  case atStart => exact ⟨n, 0, rfl, rfl, hn, by omega, by omega⟩
  case round =>
    obtain ⟨m, c, rfl, rfl, hm, hc, he⟩ := hrel
    have h32 := cnt_le 32 n hn
    by_cases h0 : m = 0
    · subst h0
      rw [cnt_zero] at he
      have hz : ((0 : Int) == 0) = true := rfl
      go_wp2_with fail
      go_ret
      exact ⟨by rw [← he]; rfl, rfl⟩
    · have hr := cnt_rest h0 hm
      have hl := rest_lt h0
      have HE := Lib.hid he
      have hz : ((m : Int) == 0) = false := by simp; omega
      have hc2 : c + 1 ≤ 32 := by omega
      have HR := Lib.hid hr
      clear he hr
      go_wp2_with (go_at_call 105; refine (rest_any m _ h0 hm).mono ?_; rintro e w1 ⟨rfl, rfl⟩)
      go_round
      case rel => exact ⟨m &&& (m - 1), c + 1, rfl, by go_num, by omega, hc2, by have := HE.out; have := HR.out; omega⟩
      case measure => simp [intOf]; omega
end Go.Proofs.YtgmejaiifibfoaaGreatDoor.L4

/-
  A set's numbers as a slice that the call made, of the code and of the document's answer: the same, rising.
-/
set_option linter.unusedSimpArgs false
set_option linter.unusedVariables false
namespace Go.Proofs.YtgmejaiifibfoaaGreatDoor.L4
open Go.RowKit Go.Lib L3

theorem intInfo : (Tryz.prog.info? 3).map (fun i => (i.zero, i.size, i.bytes)) = some (some (.int .i64 0), 1, 8) := by kernel_rfl
section
variable {P : Program}
/-- One more number behind a row that the call owns. -/
theorem wpList_append_one {ops : Array Oper} {rest : List Oper} {o : Oper} {a : Act} {Q : Exit → Act → World → Prop} (hgd : o.guard = none) (s x : Operand) (t : TypeId)
    (ho : o.op = .call { callee := .builtin .append, args := #[s, x], argTypes := #[t, t] })
    (B : Nat) (e : TypeId) (i : TypeInfo) (z : Value) (bytes : Nat) (ht : P.underlying t = some (.slice e)) (hi : P.info? e = some i) (hz : i.zero = some z) (hsize : i.size = 1) (hby : i.bytes = bytes) (hzs : z.cells.size = 1)
    (v : Value) (n : Nat) (xs : List Value) (hs : a.eval s = v) (W0 w0 : World) (u : Value) (hu : u.oneCell' = true) (hb : OwnBuf B e v n xs W0 w0)
    (hx : a.eval x = .slice (some ⟨w0.heap.size, 0, none⟩) 1 1) (hlen : (n + 1) * bytes ≤ 140737488355328) (hmax : n + 1 ≤ 140737488355328)
    (h : ∀ v' w', OwnBuf B e v' (n + 1) (xs ++ [u]) W0 w' → wpList P ops Q rest (a.put o.dst v') w') : wpList P ops Q (o :: rest) a (w0.alloc (.cells #[u] e)) := by
  have hb' := hb.alloc (.cells #[u] e)
  refine wpList_append_ownF _ hgd s x t ho B e i z 1 bytes ht hi hz hsize hby hzs (by decide) v n xs hs hb'.1 ⟨w0.heap.size, 0, none⟩ 1 1 [u] hx rfl ?_ ?_ (by unfold maxLen; omega) hlen hb'.2.2 ?_
  · intro j u' hj
    match j, hj with
    | 0, hj => simp at hj; subst hj; simp [Addr.add]
    | (j + 1), hj => simp at hj
  · intro u' hu'; simp at hu'; subst hu'; exact hu
  · intro v' w' ho' hg _
    exact h v' w' (hb'.grown ho' hg)
end
def natCells (l : List Nat) : List Value := l.map fun (n : Nat) => Value.int .i64 (n : Int)
theorem natCells_snoc (l : List Nat) (n : Nat) : natCells (l ++ [n]) = natCells l ++ [.int .i64 (n : Int)] := by simp [natCells]
/-- Numbers that the call owns: in w' the slice v holds l, in a block from B on; below B all is as it was in w. -/
def Owns (B : Nat) (v : Value) (l : List Nat) (w w' : World) : Prop := OwnBuf B 3 v l.length (natCells l) w w'
theorem Owns.nil (w : World) (B : Nat) (h : B ≤ w.heap.size) : Owns B (.slice none 0 0) [] w w := ⟨World.ownsRowF_nil _ _ _ _, Below.refl _ _, h⟩
theorem Owns.form {B : Nat} {v : Value} {l : List Nat} {w w' : World} (h : Owns B v l w w') : ∃ A c, v = .slice A l.length c ∧ Reads w' w'.heap.size 1 A l.length (natCells l) ∧ l.length ≤ c := by
  rcases h.1.2 with ⟨rfl, h0⟩ | ⟨g, cap, cur, fz, rfl, hb, hh, _, hn, _, hsz, htake⟩
  · have : l = [] := List.eq_nil_of_length_eq_zero h0
    subst this
    exact ⟨none, 0, rfl, Reads.none_, Nat.le_refl _⟩
  · refine ⟨some ⟨g, 0, none⟩, cap, rfl, ⟨by simp [natCells], fun _ => ⟨_, rfl, (Array.getElem?_eq_some_iff.1 hh).1, h.1.cells (g := g) rfl⟩⟩, hn⟩
theorem cell_lt0 {w : World} {a : Addr} {v : Value} (h : w.cell? a = some v) : a.block < w.heap.size := by
  rcases Nat.lt_or_ge a.block w.heap.size with hlt | hge
  · exact hlt
  · have e : w.heap[a.block]? = none := Array.getElem?_eq_none hge
    simp [World.cell?, e] at h

set_option maxHeartbeats 1000000 in
set_option maxRecDepth 100000 in
theorem reflist_any (n : Nat) (w : World) (hn : n < 4294967296) : Calls Tryz.prog 24 #[.int .u32 n] w fun e w' => ∃ v, e = .returned v ∧ Owns w.heap.size v (bts 0 n) w w' := by
  obtain ⟨i0, hi, hz0, hz1, hz2⟩ := info_parts intInfo
  go_enter Tryz.func24, Tryz.ntmps24
  go_wp2
  go_loopw [0, 3, 4] (fun a b c wr => ∃ (m k : Nat) (l : List Nat), a = .int .u32 m ∧ c = .int .i64 k ∧ k ≤ 32 ∧ m < 2 ^ (32 - k) ∧ m < 4294967296 ∧ l ++ bts k m = bts 0 n ∧ Owns w.heap.size b l w wr) (fun a _ _ _ => (intOf a).toNat)
  case atStart => exact ⟨n, 0, [], rfl, rfl, by omega, hn, hn, rfl, Owns.nil _ _ (Nat.le_refl _)⟩
  case round =>
    obtain ⟨m, k, l, rfl, rfl, hk, hm, hm32, he, ho⟩ := hrel
    by_cases h0 : m = 0
    · subst h0
      rw [bts_zero, List.append_nil] at he
      have hz : decide ((0 : Int) < 0) = false := rfl
      go_wp2_with fail
      go_ret
      exact ⟨_, rfl, by rw [← he]; exact ho⟩
    · have hz : decide (0 < m) = true := by simp; omega
      have hk2 : k < 32 := by
        rcases Nat.lt_or_ge k 32 with h | h
        · exact h
        · rw [show 32 - k = 0 by omega] at hm; omega
      have hm2 : m / 2 < 2 ^ (32 - (k + 1)) := by
        rw [show 32 - k = (32 - (k + 1)) + 1 by omega, Nat.pow_succ] at hm; omega
      have hle : l.length ≤ 32 := by
        have := congrArg List.length he
        have h32 := cnt_le 32 n hn
        rw [List.length_append, bts_length, bts_length] at this; omega
      have hq : IntKind.u32.wrap ((m : Int).tdiv 2) = ((m / 2 : Nat) : Int) := by rw [IntWalk.u32_quo _ _ (by omega)]; omega
      have hh := bts_half k m
      have HE := Lib.hid he
      have HM := Lib.hid hm2
      clear he hm hm2
      by_cases h1 : m % 2 = 1
      · rw [if_pos h1] at hh
        have HH := Lib.hid hh
        have h1' : ((m : Int) % 2 == 1) = true := by simp; omega
        clear hh h1
        go_wp2_with (at_builtin; refine wpList_append_one rfl _ _ 58 rfl w.heap.size 3 i0 (.int .i64 0) 8 Tryz.underlying58 hi hz0 hz1 hz2 rfl u3 l.length (natCells l) rfl w wr _ rfl ho rfl (by omega) (by omega) ?_; intro v2 w2 ho2)
        go_round
        case rel =>
          refine ⟨m / 2, k + 1, l ++ [k], rfl, by go_num, by omega, HM.out, by omega, ?_, ?_⟩
          · rw [List.append_assoc, ← HH.out]; exact HE.out
          · unfold Owns; rw [natCells_snoc, List.length_append, List.length_singleton]; exact ho2
        case measure => simp [intOf]; omega
      · rw [if_neg h1, List.nil_append] at hh
        have HH := Lib.hid hh
        have h1' : ((m : Int) % 2 == 1) = false := by simp; omega
        clear hh h1
        go_wp2_with fail
        go_round
        case rel =>
          refine ⟨m / 2, k + 1, l, rfl, by go_num, by omega, HM.out, by omega, ?_, ho⟩
          rw [← HH.out]; exact HE.out
        case measure => simp [intOf]; omega
end Go.Proofs.YtgmejaiifibfoaaGreatDoor.L4

/-
  Are they replicas; the document's answers on sets: contracts.
-/
set_option linter.unusedSimpArgs false
set_option linter.unusedVariables false
namespace Go.Proofs.YtgmejaiifibfoaaGreatDoor.L4
open Go.RowKit Go.Lib

/-- Are they replicas? -/
def checkV (f : Int) (n : Nat) : Int := if isF f = true then (if n < 2 ^ (more 3 f).toNat then 0 else 40) else 1
theorem check_iff {n m : Nat} : n < 2 ^ m ↔ ∀ i ∈ bts 0 n, i < m := by
  constructor
  · intro h i hi; exact bts_lt h hi
  · intro h
    apply Nat.lt_pow_two_of_testBit
    intro i hi
    rw [← Bool.not_eq_true]
    intro ht
    have := h i ((mem_bts n 0 i).2 ⟨by omega, by simpa using ht⟩)
    omega
theorem andNot_zero (n m : Nat) (hn : n < 4294967296) (hm : m ≤ 10) : (n &&& (4294967295 - (2 ^ m - 1)) = 0) ↔ n < 2 ^ m := by
  have h := nat_midmask 32 m n (by omega)
  have hp := Nat.two_pow_pos m
  have e : 4294967295 - (2 ^ m - 1) = 2 ^ 32 - 2 ^ m := by omega
  rw [e, h, Nat.mod_eq_of_lt (show n < 2 ^ 32 by omega)]
  constructor
  · intro h
    rcases Nat.mul_eq_zero.1 h with h | h
    · rcases Nat.lt_or_ge n (2 ^ m) with h1 | h1
      · exact h1
      · have := Nat.div_pos h1 hp; omega
    · omega
  · intro h; rw [Nat.div_eq_of_lt h, Nat.zero_mul]
theorem check_any (f : Int) (n : Nat) (w : World) (hn : n < 4294967296) : Calls Tryz.prog 50 #[.int .i64 f, .int .u32 n] w fun e w' => e = .returned (.int .i64 (checkV f n)) ∧ w = w' := by
  rcases Bool.eq_false_or_eq_true (isF f) with h | h
  · obtain ⟨m, hm, hm10⟩ := more_is f
    have hv : checkV f n = if n < 2 ^ m then 0 else 40 := by unfold checkV; rw [if_pos h, hm, Int.toNat_natCast]
    have hf := full_any f
    have hp := pow_lt32 (k := m) (by omega)
    have hand := u32_andNot_nat n (2 ^ m - 1) hn (by omega)
    have hz := andNot_zero n m hn hm10
    rw [hm, Int.toNat_natCast] at hf
    obtain ⟨z, hzz⟩ : ∃ z, z = n &&& (4294967295 - (2 ^ m - 1)) := ⟨_, rfl⟩
    rw [← hzz] at hand hz
    obtain ⟨y, hy⟩ : ∃ y, y = 2 ^ m - 1 := ⟨_, rfl⟩
    rw [← hy] at hand hf
    have HV := Lib.hid hv
    have HZ := Lib.hid hz
    have HF := Lib.hid hf
    clear hv hz hf hzz hy hp hm
    by_cases h0 : z = 0
    · subst h0
      have hlt : n < 2 ^ m := HZ.out.1 rfl
      have HL := Lib.hid hlt
      clear hlt
      go_enter Tryz.func50, Tryz.ntmps50
      go_wp2_with (first
        | (go_at_call 86; refine (allowed_any _ _).mono ?_; rintro e w1 ⟨rfl, rfl⟩)
        | (go_at_call 87; refine (HF.out _).mono ?_; rintro e w1 ⟨rfl, rfl⟩))
      go_ret
      exact ⟨by rw [HV.out, if_pos HL.out]; rfl, rfl⟩
    · have hne : ((z : Int) == 0) = false := by simp; omega
      have hlt : ¬ n < 2 ^ m := fun h => h0 (HZ.out.2 h)
      have HL := Lib.hid hlt
      clear hlt
      go_enter Tryz.func50, Tryz.ntmps50
      go_wp2_with (first
        | (go_at_call 86; refine (allowed_any _ _).mono ?_; rintro e w1 ⟨rfl, rfl⟩)
        | (go_at_call 87; refine (HF.out _).mono ?_; rintro e w1 ⟨rfl, rfl⟩))
      go_ret
      exact ⟨by rw [HV.out, if_neg HL.out]; rfl, rfl⟩
  · have hv : checkV f n = 1 := by unfold checkV; rw [if_neg (by rw [h]; decide)]
    go_enter Tryz.func50, Tryz.ntmps50
    go_wp2_with (go_at_call 86; refine (allowed_any _ _).mono ?_; rintro e w1 ⟨rfl, rfl⟩)
    go_ret
    exact ⟨by rw [hv]; rfl, rfl⟩
end Go.Proofs.YtgmejaiifibfoaaGreatDoor.L4
