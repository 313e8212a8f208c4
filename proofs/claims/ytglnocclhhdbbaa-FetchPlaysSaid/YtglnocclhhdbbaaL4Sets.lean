/-
  Sets: has, with one more, all, without the least, how many, the least's number; who leads: contracts of the code; the world stays as it was.
-/
import Derived.Test.YtglnocclhhdbbaaL4Ops
set_option linter.unusedSimpArgs false
set_option linter.unusedVariables false
namespace Go.Proofs.Ytglnocclhhdbbaa.L4
open Go.RowKit Go.Lib L3

theorem pow_lt32 {k : Nat} (hk : k < 32) : 2 ^ k < 4294967296 := Nat.lt_of_le_of_lt (Nat.pow_le_pow_right (by omega) (show k ≤ 31 by omega)) (by omega)
theorem shl_is {k : Nat} (hk : k < 32) : (2 : Int) ^ k % 4294967296 = ((2 ^ k : Nat) : Int) := by
  have h := pow_lt32 hk
  have e : (2 : Int) ^ k = ((2 ^ k : Nat) : Int) := by simp
  rw [e]
  generalize (2 : Nat) ^ k = y at h
  omega
theorem and_is (n k : Nat) (hn : n < 4294967296) (hk : k < 32) : bits BinOp.and IntKind.u32 (n : Int) ((2 : Int) ^ k % 4294967296) = ((n &&& 2 ^ k : Nat) : Int) := by
  rw [shl_is hk, u32_and_nat n _ hn (pow_lt32 hk)]
theorem or_is (n k : Nat) (hn : n < 4294967296) (hk : k < 32) : bits BinOp.or IntKind.u32 (n : Int) ((2 : Int) ^ k % 4294967296) = ((n ||| 2 ^ k : Nat) : Int) := by
  rw [shl_is hk, u32_or_nat n _ hn (pow_lt32 hk)]
theorem or_lt {n k : Nat} (hn : n < 4294967296) (hk : k < 32) : n ||| 2 ^ k < 4294967296 := Nat.or_lt_two_pow (n := 32) hn (pow_lt32 hk)
theorem more_is (f : Int) : ∃ m : Nat, more 3 f = (m : Int) ∧ m ≤ 10 := by
  unfold more
  split
  · next h => have := isF_le h; exact ⟨(3 * f + 1).toNat, by omega, by omega⟩
  · exact ⟨0, rfl, by omega⟩

/-- Is bit k in it? -/
def hasV (n : Nat) (k : Int) : Bool := fitsV k && n.testBit k.toNat
theorem and_pow (n k : Nat) : n &&& 2 ^ k = if n.testBit k = true then 2 ^ k else 0 := by
  apply Nat.eq_of_testBit_eq
  intro i
  rw [Nat.testBit_and, Nat.testBit_two_pow]
  by_cases hi : k = i
  · subst hi; cases h : n.testBit k <;> simp
  · cases h : n.testBit k <;> simp [hi, Nat.testBit_two_pow]
theorem has_any (n : Nat) (k : Int) (w : World) (hn : n < 4294967296) : Calls Try.prog 20 #[.int .u32 n, .int .i64 k] w fun e w' => e = .returned (.bool (hasV n k)) ∧ w = w' := by
  rcases Bool.eq_false_or_eq_true (fitsV k) with h | h
  · obtain ⟨h0, h1⟩ : 0 ≤ k ∧ k < 32 := of_decide_eq_true h
    obtain ⟨j, rfl⟩ := Int.eq_ofNat_of_zero_le h0
    go_enter Try.func20, Try.ntmps20
    go_wp2_with (go_at_call 32; refine (fits_any _ _).mono ?_; rintro e w1 ⟨rfl, rfl⟩)
    go_ret
    refine ⟨congrArg (fun b => Ending.returned (.bool b)) ?_, rfl⟩
    rw [and_is n j hn (by omega), and_pow]
    unfold hasV
    rw [h, Bool.true_and, Int.toNat_natCast]
    have hp := Nat.two_pow_pos j
    split
    · next h2 =>
      rw [h2]
      generalize (2 : Nat) ^ j = y at hp
      simp; omega
    · next h2 => rw [Bool.not_eq_true] at h2; rw [h2]; rfl
  · have hv : hasV n k = false := by unfold hasV; rw [h]; rfl
    go_enter Try.func20, Try.ntmps20
    go_wp2_with (go_at_call 32; refine (fits_any _ _).mono ?_; rintro e w1 ⟨rfl, rfl⟩)
    go_ret
    exact ⟨by rw [hv]; rfl, rfl⟩
theorem put_any (n : Nat) (k : Nat) (w : World) (hn : n < 4294967296) (hk : k < 32) : Calls Try.prog 18 #[.int .u32 n, .int .i64 k] w fun e w' => e = .returned (.tuple #[.int .u32 (n ||| 2 ^ k : Nat), .int .i64 0]) ∧ w = w' := by
  have h := fits_mk (k := (k : Int)) (by omega) (by omega)
  go_enter Try.func18, Try.ntmps18
  go_wp2_with (go_at_call 32; refine (fits_any _ _).mono ?_; rintro e w1 ⟨rfl, rfl⟩)
  go_ret2
  exact ⟨by rw [← or_is n k hn hk]; rfl, rfl⟩
theorem put_not (n : Nat) (k : Int) (w : World) (hk : fitsV k = false) : Calls Try.prog 18 #[.int .u32 n, .int .i64 k] w fun e w' => e = .returned (.tuple #[.int .u32 0, .int .i64 40]) ∧ w = w' := by
  go_enter Try.func18, Try.ntmps18
  go_wp2_with (go_at_call 32; refine (fits_any _ _).mono ?_; rintro e w1 ⟨rfl, rfl⟩)
  go_ret2
  exact ⟨rfl, rfl⟩
theorem full_any (f : Int) (w : World) : Calls Try.prog 21 #[.int .i64 f] w fun e w' => e = .returned (.int .u32 ((2 ^ (more 3 f).toNat - 1 : Nat) : Int)) ∧ w = w' := by
  have ha := all_any f
  obtain ⟨m, hm, hm10⟩ := more_is f
  rw [hm] at ha
  have hp := pow_lt32 (k := m) (by omega)
  have hp0 := Nat.two_pow_pos m
  have hs := shl_is (k := m) (by omega)
  obtain ⟨y, hy⟩ : ∃ y, y = 2 ^ m := ⟨_, rfl⟩
  rw [← hy] at hp hp0 hs
  have HM := Lib.hid hm
  have HY := Lib.hid hy
  have HA := Lib.hid ha
  clear hm ha hy
  go_enter Try.func21, Try.ntmps21
  go_wp2_with (go_at_call 17; refine (HA.out _).mono ?_; rintro e w1 ⟨rfl, rfl⟩)
  go_ret
  exact ⟨by rw [HM.out, Int.toNat_natCast, ← HY.out, show ((y - 1 : Nat) : Int) = (y : Int) - 1 by omega]; rfl, rfl⟩
theorem rest_any (n : Nat) (w : World) (h0 : n ≠ 0) (hn : n < 4294967296) : Calls Try.prog 33 #[.int .u32 n] w fun e w' => e = .returned (.int .u32 (n &&& (n - 1) : Nat)) ∧ w = w' := by
  have hb : bits BinOp.and IntKind.u32 (n : Int) ((n : Int) - 1) = ((n &&& (n - 1) : Nat) : Int) := by
    rw [show (n : Int) - 1 = ((n - 1 : Nat) : Int) by omega, u32_and_nat n _ hn (by omega)]
  go_enter Try.func33, Try.ntmps33
  go_wp2
  go_ret
  exact ⟨by first | rfl | (rw [← hb]; rfl), rfl⟩
set_option maxHeartbeats 1000000 in
theorem count_any (n : Nat) (w : World) (hn : n < 4294967296) : Calls Try.prog 19 #[.int .u32 n] w fun e w' => e = .returned (.int .i64 (cnt n)) ∧ w = w' := by
  go_enter Try.func19, Try.ntmps19
  go_wp2
  go_loop [0, 3] (fun a b => ∃ m c : Nat, a = .int .u32 m ∧ b = .int .i64 c ∧ m < 4294967296 ∧ c ≤ 32 ∧ c + cnt m = cnt n) (fun a _ => (intOf a).toNat)
  case atStart => exact ⟨n, 0, rfl, rfl, hn, by omega, by omega⟩
  case round =>
    obtain ⟨m, c, rfl, rfl, hm, hc, he⟩ := hrel
    have h32 := cnt_le 32 n hn
    by_cases h0 : m = 0
    · subst h0
      rw [cnt_zero] at he
      have hz : ((0 : Int) == 0) = true := rfl
      go_wp2_with fail
      go_ret
      exact ⟨by rw [← he]; rfl, rfl⟩
    · have hr := cnt_rest h0 hm
      have hl := rest_lt h0
      have HE := Lib.hid he
      have hz : ((m : Int) == 0) = false := by simp; omega
      have hc2 : c + 1 ≤ 32 := by omega
      have HR := Lib.hid hr
      clear he hr
      go_wp2_with (go_at_call 33; refine (rest_any m _ h0 hm).mono ?_; rintro e w1 ⟨rfl, rfl⟩)
      go_round
      case rel => exact ⟨m &&& (m - 1), c + 1, rfl, by go_num, by omega, hc2, by have := HE.out; have := HR.out; omega⟩
      case measure => simp [intOf]; omega
/-- Who leads. -/
def leadV (f r : Int) : Int := if isF f = true then r % (3 * f + 1) else 0
theorem tmod_emod (r n : Int) : r.tmod n % n = r % n := by rw [Int.tmod_def, Int.sub_mul_emod_self_left]
theorem tmod_in (r n : Int) (hn : 0 < n) : -n < r.tmod n ∧ r.tmod n < n := ⟨Int.lt_tmod_of_pos r hn, Int.tmod_lt_of_pos r hn⟩
theorem lead_pos {f : Int} (r : Int) (h : isF f = true) : leadV f r = (r.tmod (3 * f + 1) + (3 * f + 1)) % (3 * f + 1) := by
  have hf := isF_le h
  have hi := tmod_in r (3 * f + 1) (by omega)
  rw [Int.add_emod_right, tmod_emod]
  unfold leadV; rw [if_pos h]
theorem lead_neg {f : Int} (r : Int) (h : isF f = true) : leadV f r = if r.tmod (3 * f + 1) < 0 then r.tmod (3 * f + 1) + (3 * f + 1) else r.tmod (3 * f + 1) := by
  have hf := isF_le h
  have hi := tmod_in r (3 * f + 1) (by omega)
  rw [lead_pos r h, Int.add_emod_right]
  split
  · rw [← Int.add_emod_right]; exact Int.emod_eq_of_lt (by omega) (by omega)
  · exact Int.emod_eq_of_lt (by omega) (by omega)
end Go.Proofs.Ytglnocclhhdbbaa.L4
