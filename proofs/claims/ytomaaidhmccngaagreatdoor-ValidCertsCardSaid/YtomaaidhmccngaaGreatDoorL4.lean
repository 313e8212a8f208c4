import Derived.Lib.TrailingZeros
import Derived.Test.YtomaaidhmccngaaGreatDoorL3
import Derived.PlainAid
set_option linter.unusedSimpArgs false
set_option linter.unusedVariables false
set_option maxRecDepth 100000
set_option maxHeartbeats 16000000
namespace Go.Proofs.YtomaaidhmccngaaGreatDoor.L4
def cnt (n : Nat) : Nat := if n = 0 then 0 else n % 2 + cnt (n / 2)
termination_by n
decreasing_by omega
def bts (j n : Nat) : List Nat := if n = 0 then [] else (if n % 2 = 1 then [j] else []) ++ bts (j + 1) (n / 2)
termination_by n
decreasing_by omega
theorem qdj : cnt 0 = 0 := by rw [cnt]; rfl
theorem qdi (n : Nat) : cnt n = n % 2 + cnt (n / 2) := by
 by_cases h : n = 0
 ·subst h; simp [qdj]
 ·rw [cnt, if_neg h]
theorem qcr (j : Nat) : bts j 0 = [] := by rw [bts]; rfl
theorem qbL (j n : Nat) : bts j n = (if n % 2 = 1 then [j] else []) ++ bts (j + 1) (n / 2) := by
 by_cases h : n = 0
 ·subst h; simp [qcr]
 ·rw [bts, if_neg h]
theorem qaP : ∀ (n j : Nat), (bts j n).length = cnt n := by
 intro n
 induction n using Nat.strongRecOn with
 | ind n ih =>
   intro j
   by_cases h : n = 0
   ·subst h; simp [qcr, qdj]
   ·rw [qbL, qdi, List.length_append, ih (n / 2) (by omega)]
    by_cases h1 : n % 2 = 1
    ·rw [if_pos h1, h1]; rfl
    ·rw [if_neg h1, show n % 2 = 0 by omega]; rfl
theorem qev : ∀ (n j i : Nat), i ∈ bts j n ↔ j <= i /\ n.testBit (i - j) = true := by
 intro n
 induction n using Nat.strongRecOn with
 | ind n ih =>
   intro j i
   by_cases h : n = 0
   ·subst h; simp [qcr]
   ·rw [qbL, List.mem_append, ih (n / 2) (by omega)]
    rcases Nat.lt_trichotomy i j with hlt | rfl | hgt
    ·have : ¬ i ∈ (if n % 2 = 1 then [j] else []) := by split <;> simp; omega
     constructor
     ·rintro (h | h)
      ·exact absurd h this
      ·omega
     ·intro h; omega
    ·rw [Nat.sub_self, Nat.testBit_zero]
     constructor
     ·rintro (h | h)
      ·split at h
       ·next h1 => exact ⟨Nat.le_refl _, by simpa using h1⟩
       ·cases h
      ·omega
     ·rintro ⟨_, h⟩
      left
      rw [if_pos (by simpa using h)]
      simp
    ·have : ¬ i ∈ (if n % 2 = 1 then [j] else []) := by split <;> simp; omega
     have e : i - j = (i - (j + 1)) + 1 := by omega
     rw [e, Nat.testBit_succ]
     constructor
     ·rintro (h | h)
      ·exact absurd h this
      ·exact ⟨by omega, h.2⟩
     ·rintro ⟨_, h⟩; exact Or.inr ⟨by omega, h⟩
theorem qiU {n k i : Nat} (h : n < 2 ^ k) (hi : i ∈ bts 0 n) : i < k := by
 have := ((qev _ _ _).1 hi).2
 rw [Nat.sub_zero] at this
 rcases Nat.lt_or_ge i k with h1 | h1
 ·exact h1
 ·rw [Nat.testBit_lt_two_pow (Nat.lt_of_lt_of_le h (Nat.pow_le_pow_right (by omega) h1))] at this
  cases this
theorem qja : ∀ (k n : Nat), n < 2 ^ k -> cnt n <= k := by
 intro k
 induction k with
 | zero => intro n h; have : n = 0 := by simpa using h
           subst this; simp [qdj]
 | succ k ih => intro n h; rw [Nat.pow_succ] at h; rw [qdi]; have := ih (n / 2) (by omega); omega
theorem qkX (j k m : Nat) : bts j (2 ^ k * (2 * m + 1)) = (j + k) :: bts (j + k + 1) m := by
 induction k generalizing j with
 | zero =>
   rw [qbL, Nat.pow_zero, Nat.one_mul, if_pos (by omega), show (2 * m + 1) / 2 = m by omega]; rfl
 | succ k ih =>
   have e1 : 2 ^ (k + 1) * (2 * m + 1) = 2 * (2 ^ k * (2 * m + 1)) := by rw [Nat.pow_succ, Nat.mul_comm (2 ^ k) 2, Nat.mul_assoc]
   rw [qbL, e1, if_neg (by omega), show 2 * (2 ^ k * (2 * m + 1)) / 2 = 2 ^ k * (2 * m + 1) by omega, ih (j + 1), List.nil_append]
   rw [show j + 1 + k = j + (k + 1) by omega]
theorem bts_even (j k m : Nat) : bts j (2 ^ k * (2 * m)) = bts (j + k + 1) m := by
 induction k generalizing j with
 | zero => rw [qbL, Nat.pow_zero, Nat.one_mul, if_neg (by omega), show 2 * m / 2 = m by omega]; rfl
 | succ k ih =>
   have e1 : 2 ^ (k + 1) * (2 * m) = 2 * (2 ^ k * (2 * m)) := by rw [Nat.pow_succ, Nat.mul_comm (2 ^ k) 2, Nat.mul_assoc]
   rw [qbL, e1, if_neg (by omega), show 2 * (2 ^ k * (2 * m)) / 2 = 2 ^ k * (2 * m) by omega, ih (j + 1), List.nil_append]
   congr 1; omega
theorem and_pred (k m : Nat) : 2 ^ k * (2 * m + 1) &&& (2 ^ k * (2 * m + 1) - 1) = 2 ^ k * (2 * m) := by
 have hp : 0 < 2 ^ k := Nat.two_pow_pos k
 have e : 2 ^ k * (2 * m + 1) - 1 = 2 ^ k * (2 * m) + (2 ^ k - 1) := by
  rw [Nat.mul_add, Nat.mul_one]; omega
 apply Nat.eq_of_testBit_eq
 intro i
 rw [e, Nat.testBit_and, Nat.testBit_two_pow_mul, Nat.testBit_two_pow_mul, Nat.testBit_two_pow_mul_add _ (by omega)]
 by_cases hik : k <= i
 ·rw [if_neg (by omega)]
  simp only [ge_iff_le, hik, decide_true, Bool.true_and]
  by_cases he : i = k
  ·subst he; simp
  ·obtain ⟨j, hj⟩ : ∃ j, i - k = j + 1 := ⟨i - k - 1, by omega⟩
   rw [hj, Nat.testBit_succ, Nat.testBit_succ, show (2 * m + 1) / 2 = m by omega, show 2 * m / 2 = m by omega, Bool.and_self]
 ·simp only [ge_iff_le, hik, decide_false, Bool.false_and]
theorem qiV {n : Nat} (h0 : n ≠ 0) (h : n < 4294967296) : bts 0 n = Lib.ctz 32 n :: bts 0 (n &&& (n - 1)) := by
 obtain ⟨m, hm, hk⟩ := Lib.ctzFrom_spec 32 n (by omega) h
 have e : Lib.ctz 32 n = Lib.ctzFrom 32 n := by simp [Lib.ctz, h0]
 rw [e]
 generalize Lib.ctzFrom 32 n = k at hm hk
 subst hm
 rw [qkX, and_pred, bts_even, Nat.zero_add]
theorem cnt_rest {n : Nat} (h0 : n ≠ 0) (h : n < 4294967296) : cnt n = cnt (n &&& (n - 1)) + 1 := by
 have := congrArg List.length (qiV h0 h)
 simpa [qaP] using this
theorem qms {n : Nat} (h0 : n ≠ 0) : n &&& (n - 1) < n := Nat.lt_of_le_of_lt Nat.and_le_right (by omega)
theorem qkc : ∀ a b : Nat, cnt (a &&& b) + cnt (a ||| b) = cnt a + cnt b := by
 intro a
 induction a using Nat.strongRecOn with
 | ind a ih =>
   intro b
   by_cases h : a = 0
   ·subst h; simp [qdj]
   ·have := ih (a / 2) (by omega) (b / 2)
    rw [qdi (a &&& b), qdi (a ||| b), qdi a, qdi b, Nat.and_div_two, Nat.or_div_two]
    have h1 : (a &&& b) % 2 + (a ||| b) % 2 = a % 2 + b % 2 := by
     have e1 : (a &&& b) % 2 = (a % 2) &&& (b % 2) := by
      have := Nat.and_mod_two_pow (a := a) (b := b) (n := 1); simpa using this
     have e2 : (a ||| b) % 2 = (a % 2) ||| (b % 2) := by
      have := Nat.or_mod_two_pow (a := a) (b := b) (n := 1); simpa using this
     rw [e1, e2]
     rcases Nat.mod_two_eq_zero_or_one a with ha | ha <;> rcases Nat.mod_two_eq_zero_or_one b with hb | hb <;> rw [ha, hb] <;> rfl
    omega
theorem qeY (k : Nat) : cnt (2 ^ k) = 1 := by
 have := congrArg List.length (qkX 0 k 0)
 simpa [qaP, qcr] using this
theorem cnt_put (n k : Nat) : cnt (n ||| 2 ^ k) = cnt n + (if n.testBit k = true then 0 else 1) := by
 have h := qkc n (2 ^ k)
 rw [qeY] at h
 have e : n &&& 2 ^ k = if n.testBit k = true then 2 ^ k else 0 := by
  apply Nat.eq_of_testBit_eq
  intro i
  rw [Nat.testBit_and, Nat.testBit_two_pow]
  by_cases hi : k = i
  ·subst hi; cases h : n.testBit k <;> simp
  ·cases h : n.testBit k <;> simp [hi, Nat.testBit_two_pow]
 rw [e] at h
 split at h
 ·next h1 => rw [qeY] at h; rw [if_pos h1]; omega
 ·next h1 => rw [qdj] at h; rw [if_neg h1]; omega
end Go.Proofs.YtomaaidhmccngaaGreatDoor.L4
namespace Go.Proofs.YtomaaidhmccngaaGreatDoor.L4
open Go.RowKit Go.Lib L3
theorem qdX {a b : Bool} (h : a = b) : Ending.returned (.bool a) = .returned (.bool b) := by rw [h]
def isF (f : Int) : Bool := decide (1 <= f /\ f <= 3)
theorem isF_mk {f : Int} (h0 : 1 <= f) (h1 : f <= 3) : isF f = true := decide_eq_true ⟨h0, h1⟩
theorem qlD {f : Int} (h : f < 1 ∨ 3 < f) : isF f = false := decide_eq_false (by omega)
theorem qbP {f : Int} (h : isF f = true) : 1 <= f /\ f <= 3 := of_decide_eq_true h
theorem isF_gt {f : Int} (h : isF f = false) : f < 1 ∨ 3 < f := by have := of_decide_eq_false h; omega
def more (t f : Int) : Int := if isF f = true then t * f + 1 else 0
theorem qaG (f : Int) (w : World) : Calls Tryz.prog 147 #[.int .i64 f] w fun e w' => e = .returned (.bool (isF f)) /\ w = w' := by
 by_cases h0 : 1 <= f
 ·by_cases h1 : f <= 3
  ·have hk := isF_mk h0 h1
   go_enter Tryz.func147, Tryz.ntmps147
   go_wp2
   go_ret
   exact ⟨congrArg (fun b => Ending.returned (.bool b)) hk.symm, rfl⟩
  ·have hk := qlD (f := f) (by omega)
   go_enter Tryz.func147, Tryz.ntmps147
   go_wp2
   go_ret
   exact ⟨rfl, rfl⟩
 ·have hk := qlD (f := f) (by omega)
  go_enter Tryz.func147, Tryz.ntmps147
  go_wp2
  go_ret
  exact ⟨rfl, rfl⟩
def fitsV (k : Int) : Bool := decide (0 <= k /\ k < 32)
theorem ql8 {k : Int} (h0 : 0 <= k) (h1 : k < 32) : fitsV k = true := decide_eq_true ⟨h0, h1⟩
theorem qjf {k : Int} (h : k < 0 ∨ 32 <= k) : fitsV k = false := decide_eq_false (by omega)
theorem qdH (k : Int) (w : World) : Calls Tryz.prog 108 #[.int .i64 k] w fun e w' => e = .returned (.bool (fitsV k)) /\ w = w' := by
 by_cases h0 : 0 <= k
 ·by_cases h1 : k < 32
  ·have hk := ql8 h0 h1
   go_enter Tryz.func108, Tryz.ntmps108
   go_wp2
   go_ret
   exact ⟨congrArg (fun b => Ending.returned (.bool b)) hk.symm, rfl⟩
  ·have hk := qjf (k := k) (by omega)
   go_enter Tryz.func108, Tryz.ntmps108
   go_wp2
   go_ret
   exact ⟨rfl, rfl⟩
 ·have hk := qjf (k := k) (by omega)
  go_enter Tryz.func108, Tryz.ntmps108
  go_wp2
  go_ret
  exact ⟨rfl, rfl⟩
theorem qd4 (f t : Int) (w : World) (ht : 1 <= t /\ t <= 3) : Calls Tryz.prog 102 #[.int .i64 f, .int .i64 t] w fun e w' => e = .returned (.int .i64 (more t f)) /\ w = w' := by
 rcases Bool.eq_false_or_eq_true (isF f) with h | h
 ·have hf := qbP h
  have hm : more t f = t * f + 1 := by unfold more; rw [if_pos h]
  have hb : 0 <= t * f /\ t * f <= 9 := by
   obtain rfl | rfl | rfl : f = 1 ∨ f = 2 ∨ f = 3 := by omega
   all_goals omega
  have hw : wrap64 (t * f) = t * f := by unfold wrap64; omega
  have hw2 : wrap64 (t * f + 1) = t * f + 1 := by unfold wrap64; omega
  go_enter Tryz.func102, Tryz.ntmps102
  go_wp2_with (go_at_call 147; refine (qaG _ _).mono ?_; rintro e w1 ⟨rfl, rfl⟩)
  go_ret
  exact ⟨by first | rfl | (rw [hm]; rfl), rfl⟩
 ·have hm : more t f = 0 := by unfold more; rw [if_neg (by rw [h]; decide)]
  go_enter Tryz.func102, Tryz.ntmps102
  go_wp2_with (go_at_call 147; refine (qaG _ _).mono ?_; rintro e w1 ⟨rfl, rfl⟩)
  go_ret
  exact ⟨by first | rfl | (rw [hm]; rfl), rfl⟩
theorem qig (f : Int) (w : World) : Calls Tryz.prog 155 #[.int .i64 f] w fun e w' => e = .returned (.int .i64 (more 3 f)) /\ w = w' := by
 go_enter Tryz.func155, Tryz.ntmps155
 go_wp2_with (go_at_call 102; refine (qd4 _ _ _ (by omega)).mono ?_; rintro e w1 ⟨rfl, rfl⟩)
 go_ret
 exact ⟨rfl, rfl⟩
theorem qfW (f : Int) (w : World) : Calls Tryz.prog 56 #[.int .i64 f] w fun e w' => e = .returned (.int .i64 (more 2 f)) /\ w = w' := by
 go_enter Tryz.func56, Tryz.ntmps56
 go_wp2_with (go_at_call 102; refine (qd4 _ _ _ (by omega)).mono ?_; rintro e w1 ⟨rfl, rfl⟩)
 go_ret
 exact ⟨rfl, rfl⟩
theorem some_any (f : Int) (w : World) : Calls Tryz.prog 32 #[.int .i64 f] w fun e w' => e = .returned (.int .i64 (more 1 f)) /\ w = w' := by
 go_enter Tryz.func32, Tryz.ntmps32
 go_wp2_with (go_at_call 102; refine (qd4 _ _ _ (by omega)).mono ?_; rintro e w1 ⟨rfl, rfl⟩)
 go_ret
 exact ⟨rfl, rfl⟩
theorem qaQ (f : Int) (w : World) (h0 : -9223372036854775808 <= f) (h1 : f <= 9223372036854775807) : Calls Tryz.prog 96 #[.int .i64 f] w fun e w' => e = .returned (.int .i64 (more 3 f)) /\ w = w' := by
 rcases Bool.eq_false_or_eq_true (isF f) with h | h
 ·have hf := qbP h
  have hm : more 3 f = f + f + f + 1 := by unfold more; rw [if_pos h]; omega
  go_enter Tryz.func96, Tryz.ntmps96
  go_wp2
  go_ret
  exact ⟨by first | rfl | (rw [hm]; rfl), rfl⟩
 ·have hm : more 3 f = 0 := by unfold more; rw [if_neg (by rw [h]; decide)]
  have hf := isF_gt h
  by_cases hlt : f < 1
  ·go_enter Tryz.func96, Tryz.ntmps96
   go_wp2
   go_ret
   exact ⟨by first | rfl | (rw [hm]; rfl), rfl⟩
  ·have hgt : 3 < f := by omega
   go_enter Tryz.func96, Tryz.ntmps96
   go_wp2
   go_ret
   exact ⟨by first | rfl | (rw [hm]; rfl), rfl⟩
theorem qdW (f : Int) (w : World) (h0 : -9223372036854775808 <= f) (h1 : f <= 9223372036854775807) : Calls Tryz.prog 62 #[.int .i64 f] w fun e w' => e = .returned (.int .i64 (more 2 f)) /\ w = w' := by
 rcases Bool.eq_false_or_eq_true (isF f) with h | h
 ·have hf := qbP h
  have hm : more 2 f = f + f + 1 := by unfold more; rw [if_pos h]; omega
  have hz : (more 3 f == 0) = false := by unfold more; rw [if_pos h]; simp; omega
  go_enter Tryz.func62, Tryz.ntmps62
  go_wp2_with (go_at_call 96; refine (qaQ _ _ h0 h1).mono ?_; rintro e w1 ⟨rfl, rfl⟩)
  go_ret
  exact ⟨by first | rfl | (rw [hm]; rfl), rfl⟩
 ·have hm : more 2 f = 0 := by unfold more; rw [if_neg (by rw [h]; decide)]
  have hz : (more 3 f == 0) = true := by unfold more; rw [if_neg (by rw [h]; decide)]; rfl
  go_enter Tryz.func62, Tryz.ntmps62
  go_wp2_with (go_at_call 96; refine (qaQ _ _ h0 h1).mono ?_; rintro e w1 ⟨rfl, rfl⟩)
  go_ret
  exact ⟨by first | rfl | (rw [hm]; rfl), rfl⟩
end Go.Proofs.YtomaaidhmccngaaGreatDoor.L4
namespace Go.Proofs.YtomaaidhmccngaaGreatDoor.L4
open Go.RowKit Go.Lib L3
theorem qbM {k : Nat} (hk : k < 32) : 2 ^ k < 4294967296 := Nat.lt_of_le_of_lt (Nat.pow_le_pow_right (by omega) (show k <= 31 by omega)) (by omega)
theorem qm5 {k : Nat} (hk : k < 32) : (2 : Int) ^ k % 4294967296 = ((2 ^ k : Nat) : Int) := by
 have h := qbM hk
 have e : (2 : Int) ^ k = ((2 ^ k : Nat) : Int) := by simp
 rw [e]
 generalize (2 : Nat) ^ k = y at h
 omega
theorem and_is (n k : Nat) (hn : n < 4294967296) (hk : k < 32) : bits BinOp.and IntKind.u32 (n : Int) ((2 : Int) ^ k % 4294967296) = ((n &&& 2 ^ k : Nat) : Int) := by
 rw [qm5 hk, u32_and_nat n _ hn (qbM hk)]
theorem or_is (n k : Nat) (hn : n < 4294967296) (hk : k < 32) : bits BinOp.or IntKind.u32 (n : Int) ((2 : Int) ^ k % 4294967296) = ((n ||| 2 ^ k : Nat) : Int) := by
 rw [qm5 hk, u32_or_nat n _ hn (qbM hk)]
theorem qbv (f : Int) : ∃ m : Nat, more 3 f = (m : Int) /\ m <= 10 := by
 unfold more
 split
 ·next h => have := qbP h; exact ⟨(3 * f + 1).toNat, by omega, by omega⟩
 ·exact ⟨0, rfl, by omega⟩
def hasV (n : Nat) (k : Int) : Bool := fitsV k && n.testBit k.toNat
theorem and_pow (n k : Nat) : n &&& 2 ^ k = if n.testBit k = true then 2 ^ k else 0 := by
 apply Nat.eq_of_testBit_eq
 intro i
 rw [Nat.testBit_and, Nat.testBit_two_pow]
 by_cases hi : k = i
 ·subst hi; cases h : n.testBit k <;> simp
 ·cases h : n.testBit k <;> simp [hi, Nat.testBit_two_pow]
theorem qd3 (n : Nat) (k : Int) (w : World) (hn : n < 4294967296) : Calls Tryz.prog 104 #[.int .u32 n, .int .i64 k] w fun e w' => e = .returned (.bool (hasV n k)) /\ w = w' := by
 rcases Bool.eq_false_or_eq_true (fitsV k) with h | h
 ·obtain ⟨h0, h1⟩ : 0 <= k /\ k < 32 := of_decide_eq_true h
  obtain ⟨j, rfl⟩ := Int.eq_ofNat_of_zero_le h0
  go_enter Tryz.func104, Tryz.ntmps104
  go_wp2_with (go_at_call 108; refine (qdH _ _).mono ?_; rintro e w1 ⟨rfl, rfl⟩)
  go_ret
  refine ⟨congrArg (fun b => Ending.returned (.bool b)) ?_, rfl⟩
  rw [and_is n j hn (by omega), and_pow]
  unfold hasV
  rw [h, Bool.true_and, Int.toNat_natCast]
  have hp := Nat.two_pow_pos j
  split
  ·next h2 =>
   rw [h2]
   generalize (2 : Nat) ^ j = y at hp
   simp; omega
  ·next h2 => rw [Bool.not_eq_true] at h2; rw [h2]; rfl
 ·have hv : hasV n k = false := by unfold hasV; rw [h]; rfl
  go_enter Tryz.func104, Tryz.ntmps104
  go_wp2_with (go_at_call 108; refine (qdH _ _).mono ?_; rintro e w1 ⟨rfl, rfl⟩)
  go_ret
  exact ⟨by rw [hv]; rfl, rfl⟩
theorem qg6 (n : Nat) (k : Nat) (w : World) (hn : n < 4294967296) (hk : k < 32) : Calls Tryz.prog 39 #[.int .u32 n, .int .i64 k] w fun e w' => e = .returned (.tuple #[.int .u32 (n ||| 2 ^ k : Nat), .int .i64 0]) /\ w = w' := by
 have h := ql8 (k := (k : Int)) (by omega) (by omega)
 go_enter Tryz.func39, Tryz.ntmps39
 go_wp2_with (go_at_call 108; refine (qdH _ _).mono ?_; rintro e w1 ⟨rfl, rfl⟩)
 go_ret2
 exact ⟨by rw [<- or_is n k hn hk]; rfl, rfl⟩
theorem qdl (f : Int) (w : World) : Calls Tryz.prog 117 #[.int .i64 f] w fun e w' => e = .returned (.int .u32 ((2 ^ (more 3 f).toNat - 1 : Nat) : Int)) /\ w = w' := by
 have ha := qig f
 obtain ⟨m, hm, hm10⟩ := qbv f
 rw [hm] at ha
 have hp := qbM (k := m) (by omega)
 have hp0 := Nat.two_pow_pos m
 have hs := qm5 (k := m) (by omega)
 obtain ⟨y, hy⟩ := nm (2 ^ m)
 rw [<- hy] at hp hp0 hs
 have HM := hid hm
 have HY := hid hy
 have HA := hid ha
 clear hm ha hy
 go_enter Tryz.func117, Tryz.ntmps117
 go_wp2_with (go_at_call 155; refine (HA.out _).mono ?_; rintro e w1 ⟨rfl, rfl⟩)
 go_ret
 exact ⟨by rw [HM.out, Int.toNat_natCast, <- HY.out, show ((y - 1 : Nat) : Int) = (y : Int) - 1 by omega]; rfl, rfl⟩
theorem qj1 (n : Nat) (w : World) (h0 : n ≠ 0) (hn : n < 4294967296) : Calls Tryz.prog 101 #[.int .u32 n] w fun e w' => e = .returned (.int .u32 (n &&& (n - 1) : Nat)) /\ w = w' := by
 have hb : bits BinOp.and IntKind.u32 (n : Int) ((n : Int) - 1) = ((n &&& (n - 1) : Nat) : Int) := by
  rw [show (n : Int) - 1 = ((n - 1 : Nat) : Int) by omega, u32_and_nat n _ hn (by omega)]
 go_enter Tryz.func101, Tryz.ntmps101
 go_wp2
 go_ret
 exact ⟨by first | rfl | (rw [<- hb]; rfl), rfl⟩
def Tab (w : World) : Prop := ∀ j, j < 32 -> w.cell? ⟨0, j, none⟩ = some (.int .u8 (Lib.deBruijn32tab.getD j 0))
theorem tz_core (x k idx : Nat) (w : World) (hx0 : ((x : Int) == 0) = false)
 (key : bits BinOp.and IntKind.u32 (x : Int) (-(x : Int) % 4294967296) * 125613361 % 4294967296 / 134217728 = (idx : Int))
 (hi : idx < 32) (hk : k < 32) (hcell : w.cell? ⟨0, idx, none⟩ = some (.int .u8 k)) :
 Calls Tryz.prog 103 #[.int .u32 x] w fun e w' => e = .returned (.int .i64 k) /\ w = w' := by
 go_enter Tryz.func103, Tryz.ntmps103
 go_wp2_with (simp only [key])
 go_ret
 exact ⟨rfl, rfl⟩
theorem tz_key (x a : Nat) (hx : x < 4294967296) (hx0 : x ≠ 0) (hlow : x &&& (4294967296 - x) = a) :
 bits BinOp.and IntKind.u32 (x : Int) (-(x : Int) % 4294967296) * 125613361 % 4294967296 / 134217728 = ((a * 125613361 % 4294967296 / 134217728 : Nat) : Int) := by
 have e1 : -(x : Int) % 4294967296 = ((4294967296 - x : Nat) : Int) := by omega
 rw [e1, u32_and_nat x _ hx (by omega), hlow]
 omega
theorem tz_any (n : Nat) (w : World) (h0 : n ≠ 0) (hn : n < 4294967296) (hT : Tab w) : Calls Tryz.prog 103 #[.int .u32 n] w fun e w' => e = .returned (.int .i64 (Lib.ctz 32 n)) /\ w = w' := by
 obtain ⟨hlow, hk⟩ := Lib.lowest_bit 32 n h0 hn
 obtain ⟨hi, htab⟩ := Lib.deBruijn32_at _ hk
 have hcell := hT _ hi
 rw [htab] at hcell
 exact tz_core n _ _ w (by simp; omega) (tz_key n _ hn h0 hlow) hi hk hcell
theorem qeZ (n : Nat) (w : World) (hn : n < 4294967296) : Calls Tryz.prog 31 #[.int .u32 n] w fun e w' => e = .returned (.int .i64 (cnt n)) /\ w = w' := by
 go_enter Tryz.func31, Tryz.ntmps31
 go_wp2
 go_loop [0, 3] (fun a b => ∃ m c : Nat, a = .int .u32 m /\ b = .int .i64 c /\ m < 4294967296 /\ c <= 32 /\ c + cnt m = cnt n) (fun a _ => (intOf a).toNat)
 case atStart => exact ⟨n, 0, rfl, rfl, hn, by omega, by omega⟩
 case round =>
  obtain ⟨m, c, rfl, rfl, hm, hc, he⟩ := hrel
  have h32 := qja 32 n hn
  by_cases h0 : m = 0
  ·subst h0
   rw [qdj] at he
   have hz : ((0 : Int) == 0) = true := rfl
   go_wp2_with fail
   go_ret
   exact ⟨by rw [<- he]; rfl, rfl⟩
  ·have hr := cnt_rest h0 hm
   have hl := qms h0
   have HE := hid he
   have hz : ((m : Int) == 0) = false := by simp; omega
   have hc2 : c + 1 <= 32 := by omega
   have HR := hid hr
   clear he hr
   go_wp2_with (go_at_call 101; refine (qj1 m _ h0 hm).mono ?_; rintro e w1 ⟨rfl, rfl⟩)
   go_round
   case rel => exact ⟨m &&& (m - 1), c + 1, rfl, by go_num, by omega, hc2, by have := HE.out; have := HR.out; omega⟩
   case measure => simp [intOf]; omega
def leadV (f r : Int) : Int := if isF f = true then r % (3 * f + 1) else 0
theorem qmR (r n : Int) : r.tmod n % n = r % n := by rw [Int.tmod_def, Int.sub_mul_emod_self_left]
theorem qgR (r n : Int) (hn : 0 < n) : -n < r.tmod n /\ r.tmod n < n := ⟨Int.lt_tmod_of_pos r hn, Int.tmod_lt_of_pos r hn⟩
theorem qjm {f : Int} (r : Int) (h : isF f = true) : leadV f r = (r.tmod (3 * f + 1) + (3 * f + 1)) % (3 * f + 1) := by
 have hf := qbP h
 have hi := qgR r (3 * f + 1) (by omega)
 rw [Int.add_emod_right, qmR]
 unfold leadV; rw [if_pos h]
theorem lead_neg {f : Int} (r : Int) (h : isF f = true) : leadV f r = if r.tmod (3 * f + 1) < 0 then r.tmod (3 * f + 1) + (3 * f + 1) else r.tmod (3 * f + 1) := by
 have hf := qbP h
 have hi := qgR r (3 * f + 1) (by omega)
 rw [qjm r h, Int.add_emod_right]
 split
 ·rw [<- Int.add_emod_right]; exact Int.emod_eq_of_lt (by omega) (by omega)
 ·exact Int.emod_eq_of_lt (by omega) (by omega)
theorem qfR (f r : Int) (w : World) : Calls Tryz.prog 145 #[.int .i64 f, .int .i64 r] w fun e w' => e = .returned (.int .i64 (leadV f r)) /\ w = w' := by
 rcases Bool.eq_false_or_eq_true (isF f) with h | h
 ·have hf := qbP h
  have hm : more 3 f = 3 * f + 1 := by unfold more; rw [if_pos h]
  have hz : (3 * f + 1 == 0) = false := by simp; omega
  have hi := qgR r (3 * f + 1) (by omega)
  have hw : wrap64 (r.tmod (3 * f + 1) + (3 * f + 1)) = r.tmod (3 * f + 1) + (3 * f + 1) := by unfold wrap64; omega
  have hv := qjm r h
  have ha := qig f
  rw [hm] at ha
  have HV := hid hv
  clear hv
  go_enter Tryz.func145, Tryz.ntmps145
  go_wp2_with (go_at_call 155; refine (ha _).mono ?_; rintro e w1 ⟨rfl, rfl⟩)
  go_ret
  exact ⟨by rw [HV.out]; rfl, rfl⟩
 ·have hm : more 3 f = 0 := by unfold more; rw [if_neg (by rw [h]; decide)]
  have hv : leadV f r = 0 := by unfold leadV; rw [if_neg (by rw [h]; decide)]
  have ha := qig f
  rw [hm] at ha
  go_enter Tryz.func145, Tryz.ntmps145
  go_wp2_with (go_at_call 155; refine (ha _).mono ?_; rintro e w1 ⟨rfl, rfl⟩)
  go_ret
  exact ⟨by first | rfl | (rw [hv]; rfl), rfl⟩
theorem qgD (f r : Int) (w : World) (h0 : -9223372036854775808 <= f) (h1 : f <= 9223372036854775807) : Calls Tryz.prog 97 #[.int .i64 f, .int .i64 r] w fun e w' => e = .returned (.int .i64 (leadV f r)) /\ w = w' := by
 rcases Bool.eq_false_or_eq_true (isF f) with h | h
 ·have hf := qbP h
  have hm : more 3 f = 3 * f + 1 := by unfold more; rw [if_pos h]
  have hz : (3 * f + 1 == 0) = false := by simp; omega
  have hi := qgR r (3 * f + 1) (by omega)
  have hv := lead_neg r h
  have ha := fun w => qaQ f w h0 h1
  rw [hm] at ha
  have HV := hid hv
  clear hv
  by_cases hlt : r.tmod (3 * f + 1) < 0
  ·go_enter Tryz.func97, Tryz.ntmps97
   go_wp2_with (go_at_call 96; refine (ha _).mono ?_; rintro e w1 ⟨rfl, rfl⟩)
   go_ret
   exact ⟨by rw [HV.out, if_pos hlt]; rfl, rfl⟩
  ·go_enter Tryz.func97, Tryz.ntmps97
   go_wp2_with (go_at_call 96; refine (ha _).mono ?_; rintro e w1 ⟨rfl, rfl⟩)
   go_ret
   exact ⟨by rw [HV.out, if_neg (by omega)]; rfl, rfl⟩
 ·have hm : more 3 f = 0 := by unfold more; rw [if_neg (by rw [h]; decide)]
  have hv : leadV f r = 0 := by unfold leadV; rw [if_neg (by rw [h]; decide)]
  have ha := fun w => qaQ f w h0 h1
  rw [hm] at ha
  go_enter Tryz.func97, Tryz.ntmps97
  go_wp2_with (go_at_call 96; refine (ha _).mono ?_; rintro e w1 ⟨rfl, rfl⟩)
  go_ret
  exact ⟨by first | rfl | (rw [hv]; rfl), rfl⟩
end Go.Proofs.YtomaaidhmccngaaGreatDoor.L4
namespace Go.Proofs.YtomaaidhmccngaaGreatDoor.L4
open Go.RowKit Go.Lib L3
theorem intInfo : (Tryz.prog.info? 3).map (fun i => (i.zero, i.size, i.bytes)) = some (some (.int .i64 0), 1, 8) := by kernel_rfl
section
variable {P : Program}
theorem qcA {ops : Array Oper} {rest : List Oper} {o : Oper} {a : Act} {Q : Exit -> Act -> World -> Prop} (hgd : o.guard = none) (s x : Operand) (t : TypeId)
 (ho : o.op = .call { callee := .builtin .append, args := #[s, x], argTypes := #[t, t] })
 (B : Nat) (e : TypeId) (i : TypeInfo) (z : Value) (bytes : Nat) (ht : P.underlying t = some (.slice e)) (hi : P.info? e = some i) (hz : i.zero = some z) (hsize : i.size = 1) (hby : i.bytes = bytes) (hzs : z.cells.size = 1)
 (v : Value) (n : Nat) (xs : List Value) (hs : a.eval s = v) (W0 w0 : World) (u : Value) (hu : u.oneCell' = true) (hb : OwnBuf B e v n xs W0 w0)
 (hx : a.eval x = .slice (some ⟨w0.heap.size, 0, none⟩) 1 1) (hlen : (n + 1) * bytes <= 140737488355328) (hmax : n + 1 <= 140737488355328)
 (h : ∀ v' w', OwnBuf B e v' (n + 1) (xs ++ [u]) W0 w' -> wpList P ops Q rest (a.put o.dst v') w') : wpList P ops Q (o :: rest) a (w0.alloc (.cells #[u] e)) := by
 have hb' := hb.alloc (.cells #[u] e)
 refine wpList_append_ownF _ hgd s x t ho B e i z 1 bytes ht hi hz hsize hby hzs (by decide) v n xs hs hb'.1 ⟨w0.heap.size, 0, none⟩ 1 1 [u] hx rfl ?_ ?_ (by unfold maxLen; omega) hlen hb'.2.2 ?_
 ·intro j u' hj
  match j, hj with
  | 0, hj => simp at hj; subst hj; simp [Addr.add]
  | (j + 1), hj => simp at hj
 ·intro u' hu'; simp at hu'; subst hu'; exact hu
 ·intro v' w' ho' hg _
  exact h v' w' (hb'.grown ho' hg)
end
def natCells (l : List Nat) : List Value := l.map fun (n : Nat) => Value.int .i64 (n : Int)
theorem qdN (l : List Nat) (n : Nat) : natCells (l ++ [n]) = natCells l ++ [.int .i64 (n : Int)] := by simp [natCells]
def Owns (B : Nat) (v : Value) (l : List Nat) (w w' : World) : Prop := OwnBuf B 3 v l.length (natCells l) w w'
theorem Owns.nil (w : World) (B : Nat) (h : B <= w.heap.size) : Owns B (.slice none 0 0) [] w w := ⟨World.ownsRowF_nil _ _ _ _, Below.refl _ _, h⟩
theorem Owns.form {B : Nat} {v : Value} {l : List Nat} {w w' : World} (h : Owns B v l w w') : ∃ A c, v = .slice A l.length c /\ Reads w' w'.heap.size 1 A l.length (natCells l) /\ l.length <= c := by
 rcases h.1.2 with ⟨rfl, h0⟩ | ⟨g, cap, cur, fz, rfl, hb, hh, _, hn, _, hsz, htake⟩
 ·have : l = [] := List.eq_nil_of_length_eq_zero h0
  subst this
  exact ⟨none, 0, rfl, Reads.none_, Nat.le_refl _⟩
 ·refine ⟨some ⟨g, 0, none⟩, cap, rfl, ⟨by simp [natCells], fun _ => ⟨_, rfl, (Array.getElem?_eq_some_iff.1 hh).1, h.1.cells (g := g) rfl⟩⟩, hn⟩
theorem cell_lt0 {w : World} {a : Addr} {v : Value} (h : w.cell? a = some v) : a.block < w.heap.size := by
 rcases Nat.lt_or_ge a.block w.heap.size with hlt | hge
 ·exact hlt
 ·have e : w.heap[a.block]? = none := Array.getElem?_eq_none hge
  simp [World.cell?, e] at h
theorem Tab.kept {w w' : World} (h : Tab w) (hb : Below w.heap.size w w') : Tab w' := fun j hj => (hb.cell (cell_lt0 (h j hj))).trans (h j hj)
theorem list_any (n : Nat) (w : World) (hn : n < 4294967296) (hT : Tab w) : Calls Tryz.prog 33 #[.int .u32 n] w fun e w' => ∃ v, e = .returned v /\ Owns w.heap.size v (bts 0 n) w w' := by
 obtain ⟨i0, hi, hz0, hz1, hz2⟩ := info_parts intInfo
 have HT := hid hT
 clear hT
 go_enter Tryz.func33, Tryz.ntmps33
 go_wp2
 go_loopw [0, 3] (fun a b wr => ∃ (m : Nat) (l : List Nat), a = .int .u32 m /\ m < 4294967296 /\ l ++ bts 0 m = bts 0 n /\ Owns w.heap.size b l w wr) (fun a _ _ => (intOf a).toNat)
 case atStart => exact ⟨n, [], rfl, hn, rfl, Owns.nil _ _ (Nat.le_refl _)⟩
 case round =>
  obtain ⟨m, l, rfl, hm, he, ho⟩ := hrel
  by_cases h0 : m = 0
  ·subst h0
   rw [qcr, List.append_nil] at he
   have hz : ((0 : Int) == 0) = true := rfl
   go_wp2_with fail
   go_ret
   exact ⟨_, rfl, by rw [<- he]; exact ho⟩
  ·have hr := qiV h0 hm
   have hl := qms h0
   have hz : ((m : Int) == 0) = false := by simp; omega
   have hle : l.length <= 32 := by
    have := congrArg List.length he
    have h32 := qja 32 n hn
    rw [List.length_append, qaP, qaP] at this; omega
   have HE := hid he
   have HR := hid hr
   have HK := hid (HT.out.kept ho.2.1)
   clear he hr
   go_wp2_with (first
    | (go_at_call 101; refine (qj1 m _ h0 hm).mono ?_; rintro e w1 ⟨rfl, rfl⟩)
    | (go_at_call 103; refine (tz_any m _ h0 hm HK.out).mono ?_; rintro e w1 ⟨rfl, rfl⟩)
    | (at_builtin; refine qcA rfl _ _ 79 rfl w.heap.size 3 i0 (.int .i64 0) 8 Tryz.underlying79 hi hz0 hz1 hz2 rfl u3 l.length (natCells l) rfl w wr _ rfl ho rfl (by omega) (by omega) ?_; intro v2 w2 ho2))
   go_round
   case rel =>
    refine ⟨m &&& (m - 1), l ++ [Lib.ctz 32 m], rfl, by omega, ?_, ?_⟩
    ·rw [List.append_assoc, List.singleton_append, <- HR.out]; exact HE.out
    ·unfold Owns; rw [qdN, List.length_append, List.length_singleton]; exact ho2
   case measure => simp [intOf]; omega
theorem qcn (n : Nat) (w : World) (hn : n < 4294967296) : Calls Tryz.prog 111 #[.int .u32 n] w fun e w' => ∃ v, e = .returned v /\ Owns w.heap.size v (bts 0 n) w w' := by
 obtain ⟨i0, hi, hz0, hz1, hz2⟩ := info_parts intInfo
 go_enter Tryz.func111, Tryz.ntmps111
 go_wp2
 go_loopw [0, 3, 4] (fun a b c wr => ∃ (m k : Nat) (l : List Nat), a = .int .u32 m /\ c = .int .i64 k /\ k <= 32 /\ m < 2 ^ (32 - k) /\ m < 4294967296 /\ l ++ bts k m = bts 0 n /\ Owns w.heap.size b l w wr) (fun a _ _ _ => (intOf a).toNat)
 case atStart => exact ⟨n, 0, [], rfl, rfl, by omega, hn, hn, rfl, Owns.nil _ _ (Nat.le_refl _)⟩
 case round =>
  obtain ⟨m, k, l, rfl, rfl, hk, hm, hm32, he, ho⟩ := hrel
  by_cases h0 : m = 0
  ·subst h0
   rw [qcr, List.append_nil] at he
   have hz : decide ((0 : Int) < 0) = false := rfl
   go_wp2_with fail
   go_ret
   exact ⟨_, rfl, by rw [<- he]; exact ho⟩
  ·have hz : decide (0 < m) = true := by simp; omega
   have hk2 : k < 32 := by
    rcases Nat.lt_or_ge k 32 with h | h
    ·exact h
    ·rw [show 32 - k = 0 by omega] at hm; omega
   have hm2 : m / 2 < 2 ^ (32 - (k + 1)) := by
    rw [show 32 - k = (32 - (k + 1)) + 1 by omega, Nat.pow_succ] at hm; omega
   have hle : l.length <= 32 := by
    have := congrArg List.length he
    have h32 := qja 32 n hn
    rw [List.length_append, qaP, qaP] at this; omega
   have hq : IntKind.u32.wrap ((m : Int).tdiv 2) = ((m / 2 : Nat) : Int) := by rw [IntWalk.u32_quo _ _ (by omega)]; omega
   have hh := qbL k m
   have HE := hid he
   have HM := hid hm2
   clear he hm hm2
   by_cases h1 : m % 2 = 1
   ·rw [if_pos h1] at hh
    have HH := hid hh
    have h1' : ((m : Int) % 2 == 1) = true := by simp; omega
    clear hh h1
    go_wp2_with (at_builtin; refine qcA rfl _ _ 79 rfl w.heap.size 3 i0 (.int .i64 0) 8 Tryz.underlying79 hi hz0 hz1 hz2 rfl u3 l.length (natCells l) rfl w wr _ rfl ho rfl (by omega) (by omega) ?_; intro v2 w2 ho2)
    go_round
    case rel =>
     refine ⟨m / 2, k + 1, l ++ [k], rfl, by go_num, by omega, HM.out, by omega, ?_, ?_⟩
     ·rw [List.append_assoc, <- HH.out]; exact HE.out
     ·unfold Owns; rw [qdN, List.length_append, List.length_singleton]; exact ho2
    case measure => simp [intOf]; omega
   ·rw [if_neg h1, List.nil_append] at hh
    have HH := hid hh
    have h1' : ((m : Int) % 2 == 1) = false := by simp; omega
    clear hh h1
    go_wp2_with fail
    go_round
    case rel =>
     refine ⟨m / 2, k + 1, l, rfl, by go_num, by omega, HM.out, by omega, ?_, ho⟩
     rw [<- HH.out]; exact HE.out
    case measure => simp [intOf]; omega
end Go.Proofs.YtomaaidhmccngaaGreatDoor.L4
namespace Go.Proofs.YtomaaidhmccngaaGreatDoor.L4
open Go.RowKit Go.Lib L3
theorem Owns.below {B : Nat} {v : Value} {l : List Nat} {w w' : World} (h : Owns B v l w w') : Below B w w' := h.2.1
theorem qdp {l : List Nat} {k : Nat} {u : Value} (hk : k < l.length) (h : (natCells l)[k]? = some u) : u = .int .i64 (l[k] : Int) := by
 simp only [natCells, List.getElem?_map, List.getElem?_eq_getElem hk, Option.map_some, Option.some.injEq] at h
 exact h.symm
theorem qej {n : Nat} (h : n < 4294967296) : (bts 0 n).length <= 32 := by rw [qaP]; exact qja 32 n h
theorem has_iff {n : Nat} {k : Int} (hn : n < 4294967296) : hasV n k = true ↔ ∃ j ∈ bts 0 n, (j : Int) = k := by
 unfold hasV fitsV
 simp only [Bool.and_eq_true, decide_eq_true_eq]
 constructor
 ·rintro ⟨⟨h0, h1⟩, h⟩
  exact ⟨k.toNat, (qev n 0 _).2 ⟨by omega, by simpa using h⟩, by omega⟩
 ·rintro ⟨j, hj, rfl⟩
  have := qiU (k := 32) hn hj
  have hj := ((qev n 0 j).1 hj).2
  exact ⟨⟨by omega, by omega⟩, by simpa using hj⟩
theorem qk6 (n : Nat) (k : Int) (w : World) (hn : n < 4294967296) : Calls Tryz.prog 129 #[.int .u32 n, .int .i64 k] w fun e w' => e = .returned (.bool (hasV n k)) /\ Below w.heap.size w w' := by
 have hl := qej hn
 have HI := hid (has_iff (k := k) hn)
 obtain ⟨L, hL⟩ := nm (bts 0 n)
 have hr := qcn n
 rw [<- hL] at hl hr HI
 clear hL
 go_enter Tryz.func129, Tryz.ntmps129
 go_wp2_with (go_at_call 111; refine (hr _ hn).mono ?_; rintro e w1 ⟨v1, rfl, ho1⟩; obtain ⟨A1, c1, rfl, hr1, hc1⟩ := ho1.form)
 go_loop [6] (fun a => ∃ i : Nat, a = .int .i64 i /\ i <= L.length /\ ∀ j ∈ L.take i, (j : Int) ≠ k) (fun a => L.length - (intOf a).toNat)
 case atStart => exact ⟨0, rfl, Nat.zero_le _, fun j hj => by simp at hj⟩
 case round =>
  obtain ⟨i, rfl, hi, hno⟩ := hrel
  by_cases hlt : i < L.length
  ·obtain ⟨ad, u, rfl, _, hx, hc⟩ := hr1.at_ hlt
   obtain rfl := qdp hlt hx
   obtain ⟨x, hz⟩ := nm (L[i])
   have htk : L.take (i + 1) = L.take i ++ [x] := by rw [hz, List.take_succ_eq_append_getElem hlt]
   have hmem : x ∈ L := by rw [hz]; exact List.getElem_mem hlt
   rw [<- hz] at hc
   have HT := hid htk
   have HN := hid hno
   have HM := hid hmem
   clear hx hz htk hno hmem
   by_cases hk : (x : Int) = k
   ·have hk' : ((x : Int) == k) = true := by simp; exact hk
    have hv : hasV n k = true := HI.out.2 ⟨x, HM.out, hk⟩
    have HK := hid hk
    clear hk
    go_wp2_with fail
    go_ret
    exact ⟨rfl, ho1.below⟩
   ·have hk' : ((x : Int) == k) = false := by simp; exact hk
    have HK := hid hk
    clear hk
    go_wp2_with fail
    go_round
    case rel =>
     refine ⟨i + 1, by go_num, by omega, fun j hj => ?_⟩
     rw [HT.out, List.mem_append] at hj
     rcases hj with hj | hj
     ·exact HN.out j hj
     ·simp at hj; subst hj; exact HK.out
    case measure => simp [intOf]; omega
  ·rw [List.take_of_length_le (by omega)] at hno
   have hv : hasV n k = false := by
    rw [<- Bool.not_eq_true, HI.out]
    rintro ⟨j, hj, he⟩
    exact hno j hj he
   have HN := hid hno
   clear hno
   go_wp2_with fail
   go_ret
   exact ⟨rfl, ho1.below⟩
def checkV (f : Int) (n : Nat) : Int := if isF f = true then (if n < 2 ^ (more 3 f).toNat then 0 else 40) else 1
theorem qlm {n m : Nat} : n < 2 ^ m ↔ ∀ i ∈ bts 0 n, i < m := by
 constructor
 ·intro h i hi; exact qiU h hi
 ·intro h
  apply Nat.lt_pow_two_of_testBit
  intro i hi
  rw [<- Bool.not_eq_true]
  intro ht
  have := h i ((qev n 0 i).2 ⟨by omega, by simpa using ht⟩)
  omega
theorem qih (n m : Nat) (hn : n < 4294967296) (hm : m <= 10) : (n &&& (4294967295 - (2 ^ m - 1)) = 0) ↔ n < 2 ^ m := by
 have h := nat_midmask 32 m n (by omega)
 have hp := Nat.two_pow_pos m
 have e : 4294967295 - (2 ^ m - 1) = 2 ^ 32 - 2 ^ m := by omega
 rw [e, h, Nat.mod_eq_of_lt (show n < 2 ^ 32 by omega)]
 constructor
 ·intro h
  rcases Nat.mul_eq_zero.1 h with h | h
  ·rcases Nat.lt_or_ge n (2 ^ m) with h1 | h1
   ·exact h1
   ·have := Nat.div_pos h1 hp; omega
  ·omega
 ·intro h; rw [Nat.div_eq_of_lt h, Nat.zero_mul]
theorem qaD (f : Int) (n : Nat) (w : World) (hn : n < 4294967296) : Calls Tryz.prog 109 #[.int .i64 f, .int .u32 n] w fun e w' => e = .returned (.int .i64 (checkV f n)) /\ w = w' := by
 rcases Bool.eq_false_or_eq_true (isF f) with h | h
 ·obtain ⟨m, hm, hm10⟩ := qbv f
  have hv : checkV f n = if n < 2 ^ m then 0 else 40 := by unfold checkV; rw [if_pos h, hm, Int.toNat_natCast]
  have hf := qdl f
  have hp := qbM (k := m) (by omega)
  have hand := u32_andNot_nat n (2 ^ m - 1) hn (by omega)
  have hz := qih n m hn hm10
  rw [hm, Int.toNat_natCast] at hf
  obtain ⟨z, hzz⟩ := nm (n &&& (4294967295 - (2 ^ m - 1)))
  rw [<- hzz] at hand hz
  obtain ⟨y, hy⟩ := nm (2 ^ m - 1)
  rw [<- hy] at hand hf
  have HV := hid hv
  have HZ := hid hz
  have HF := hid hf
  clear hv hz hf hzz hy hp hm
  by_cases h0 : z = 0
  ·subst h0
   have hlt : n < 2 ^ m := HZ.out.1 rfl
   have HL := hid hlt
   clear hlt
   go_enter Tryz.func109, Tryz.ntmps109
   go_wp2_with (first
    | (go_at_call 147; refine (qaG _ _).mono ?_; rintro e w1 ⟨rfl, rfl⟩)
    | (go_at_call 117; refine (HF.out _).mono ?_; rintro e w1 ⟨rfl, rfl⟩))
   go_ret
   exact ⟨by rw [HV.out, if_pos HL.out]; rfl, rfl⟩
  ·have hne : ((z : Int) == 0) = false := by simp; omega
   have hlt : ¬ n < 2 ^ m := fun h => h0 (HZ.out.2 h)
   have HL := hid hlt
   clear hlt
   go_enter Tryz.func109, Tryz.ntmps109
   go_wp2_with (first
    | (go_at_call 147; refine (qaG _ _).mono ?_; rintro e w1 ⟨rfl, rfl⟩)
    | (go_at_call 117; refine (HF.out _).mono ?_; rintro e w1 ⟨rfl, rfl⟩))
   go_ret
   exact ⟨by rw [HV.out, if_neg HL.out]; rfl, rfl⟩
 ·have hv : checkV f n = 1 := by unfold checkV; rw [if_neg (by rw [h]; decide)]
  go_enter Tryz.func109, Tryz.ntmps109
  go_wp2_with (go_at_call 147; refine (qaG _ _).mono ?_; rintro e w1 ⟨rfl, rfl⟩)
  go_ret
  exact ⟨by rw [hv]; rfl, rfl⟩
theorem qa2 (f : Int) (n : Nat) (w : World) (hn : n < 4294967296) (h0 : -9223372036854775808 <= f) (h1 : f <= 9223372036854775807) : Calls Tryz.prog 110 #[.int .i64 f, .int .u32 n] w fun e w' => e = .returned (.int .i64 (checkV f n)) /\ Below w.heap.size w w' := by
 have ha := fun w => qaQ f w h0 h1
 rcases Bool.eq_false_or_eq_true (isF f) with h | h
 ·obtain ⟨m, hm, hm10⟩ := qbv f
  have hv : checkV f n = if n < 2 ^ m then 0 else 40 := by unfold checkV; rw [if_pos h, hm, Int.toNat_natCast]
  have hm0 : m ≠ 0 := by
   have : more 3 f = 3 * f + 1 := by unfold more; rw [if_pos h]
   have := qbP h
   omega
  have hmz : ((m : Int) == 0) = false := by simp; omega
  rw [hm] at ha
  have hl := qej hn
  have hr := qcn n
  have HI := hid (qlm (n := n) (m := m))
  obtain ⟨L, hL⟩ := nm (bts 0 n)
  rw [<- hL] at hl hr HI
  have HV := hid hv
  clear hL hv hm
  go_enter Tryz.func110, Tryz.ntmps110
  go_wp2_with (first
   | (go_at_call 96; refine (ha _).mono ?_; rintro e w1 ⟨rfl, rfl⟩)
   | (go_at_call 111; refine (hr _ hn).mono ?_; rintro e w1 ⟨v1, rfl, ho1⟩; obtain ⟨A1, c1, rfl, hr1, hc1⟩ := ho1.form))
  go_loopw [6] (fun a wr => ∃ i : Nat, a = .int .i64 i /\ i <= L.length /\ (∀ j ∈ L.take i, j < m) /\ Below w1.heap.size w1 wr) (fun a _ => L.length - (intOf a).toNat)
  case atStart => exact ⟨0, rfl, Nat.zero_le _, fun j hj => by simp at hj, Below.refl _ _⟩
  case round =>
   obtain ⟨i, rfl, hi, hno, hbr⟩ := hrel
   have hfin := ho1.below.trans (hbr.mono ho1.below.size)
   by_cases hlt : i < L.length
   ·obtain ⟨ad, u, rfl, _, hx, hc⟩ := (hr1.below hbr).at_ hlt
    obtain rfl := qdp hlt hx
    obtain ⟨x, hz⟩ := nm (L[i])
    have htk : L.take (i + 1) = L.take i ++ [x] := by rw [hz, List.take_succ_eq_append_getElem hlt]
    have hmem : x ∈ L := by rw [hz]; exact List.getElem_mem hlt
    rw [<- hz] at hc
    have HT := hid htk
    have HN := hid hno
    have HM := hid hmem
    clear hx hz htk hno hmem
    by_cases hk : m <= x
    ·have hk' : decide (m <= x) = true := by simp; exact hk
     have HK := hid hk
     clear hk
     go_wp2_with fail
     go_region_with (go_at_call 96; refine (ha _).mono ?_; rintro e w1 ⟨rfl, rfl⟩)
     all_goals
      go_wp2_with fail
      go_ret
      exact ⟨by rw [HV.out, if_neg (fun h => by have := HI.out.1 h x HM.out; have := HK.out; omega)]; rfl, by first | exact hfin | exact hfin.drew⟩
    ·have hk' : decide (m <= x) = false := by simp; omega
     have HK := hid hk
     clear hk
     go_wp2_with fail
     go_region_with (go_at_call 96; refine (ha _).mono ?_; rintro e w1 ⟨rfl, rfl⟩)
     all_goals
      go_wp2_with fail
      go_round
      case rel =>
       refine ⟨i + 1, by go_num, by omega, fun j hj => ?_, by first | exact hbr | exact hbr.drew⟩
       rw [HT.out, List.mem_append] at hj
       rcases hj with hj | hj
       ·exact HN.out j hj
       ·simp at hj; subst hj; have := HK.out; omega
      case measure => simp [intOf]; omega
   ·rw [List.take_of_length_le (by omega)] at hno
    have HN := hid (HI.out.2 hno)
    clear hno
    go_wp2_with fail
    go_ret
    exact ⟨by rw [HV.out, if_pos HN.out]; rfl, hfin⟩
 ·have hv : checkV f n = 1 := by unfold checkV; rw [if_neg (by rw [h]; decide)]
  have hm : more 3 f = 0 := by unfold more; rw [if_neg (by rw [h]; decide)]
  rw [hm] at ha
  go_enter Tryz.func110, Tryz.ntmps110
  go_wp2_with (go_at_call 96; refine (ha _).mono ?_; rintro e w1 ⟨rfl, rfl⟩)
  go_ret
  exact ⟨by rw [hv]; rfl, Below.refl _ _⟩
end Go.Proofs.YtomaaidhmccngaaGreatDoor.L4
