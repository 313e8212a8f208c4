/-
  The bytes of numbers, plainly: over lists of bytes; no program in this text.
-/
import Derived.Lib.UnsafeStr
set_option linter.unusedSimpArgs false
set_option linter.unusedVariables false
namespace Go.Proofs.Ythhjdielananeaa.L3

/-- The bytes of a number. -/
def encN (n : Nat) : List UInt8 := if n < 128 then [UInt8.ofNat n] else UInt8.ofNat (n % 128 + 128) :: encN (n / 128)
termination_by n
decreasing_by omega
theorem encN_small {n : Nat} (h : n < 128) : encN n = [UInt8.ofNat n] := by rw [encN, if_pos h]
theorem encN_big {n : Nat} (h : 128 ≤ n) : encN n = UInt8.ofNat (n % 128 + 128) :: encN (n / 128) := by rw [encN, if_neg (by omega)]
theorem encN_le (k : Nat) : ∀ n : Nat, n < 128 ^ (k + 1) → (encN n).length ≤ k + 1 := by
  induction k with
  | zero => intro n h; rw [encN_small (by omega)]; simp
  | succ k ih =>
    intro n h
    by_cases hs : n < 128
    · rw [encN_small hs]; simp
    · rw [encN_big (by omega)]
      have := ih (n / 128) (by rw [Nat.pow_succ] at h; omega)
      simp; omega
theorem encN_le9 {n : Nat} (h : n ≤ 4611686018427387904) : (encN n).length ≤ 9 := encN_le 8 n (by omega)
theorem encN_pos (n : Nat) : 0 < (encN n).length := by
  by_cases hs : n < 128
  · rw [encN_small hs]; simp
  · rw [encN_big (by omega)]; simp

/-- What a reader tells of a number at byte i, behind a: the number, how many bytes it has, the error. -/
def rdN : Nat → Nat → List UInt8 → Nat × Nat × Nat
  | _, _, [] => (0, 0, 30)
  | i, a, c :: l =>
    if i = 9 then (0, 0, 31)
    else if 128 ≤ c.toNat then rdN (i + 1) (a + c.toNat % 128 * 128 ^ i) l
    else if (c.toNat = 0 ∧ 0 < i) ∨ 4611686018427387904 < a + c.toNat * 128 ^ i then (0, 0, 31)
    else (a + c.toNat * 128 ^ i, i + 1, 0)

theorem toNat_ofNat {n : Nat} (h : n < 256) : (UInt8.ofNat n).toNat = n := by rw [UInt8.toNat_ofNat']; omega
theorem ofNat_toNat (c : UInt8) : UInt8.ofNat c.toNat = c := by simp

theorem pow_le_of {i : Nat} (h : 128 * 128 ^ i ≤ 4611686018427387904) : i < 8 := by
  rcases Nat.lt_or_ge i 8 with h8 | h8
  · exact h8
  · have : 128 ^ 8 ≤ 128 ^ i := Nat.pow_le_pow_right (by omega) h8
    omega

theorem rd_enc (rest : List UInt8) : ∀ (n i a : Nat), i ≤ 8 → a + n * 128 ^ i ≤ 4611686018427387904 → (0 < i → 0 < n) →
    rdN i a (encN n ++ rest) = (a + n * 128 ^ i, i + (encN n).length, 0) := by
  intro n
  induction n using Nat.strongRecOn with
  | ind n ih =>
    intro i a hi hb hp
    by_cases hs : n < 128
    · rw [encN_small hs]
      simp only [List.cons_append, List.nil_append, rdN, toNat_ofNat (show n < 256 by omega), List.length_singleton]
      rw [if_neg (by omega), if_neg (by omega), if_neg (by omega)]
    · rw [encN_big (by omega)]
      have h0 : 128 * 128 ^ i ≤ n * 128 ^ i := Nat.mul_le_mul_right _ (by omega)
      have hi8 := pow_le_of (i := i) (by omega)
      have hm : (n % 128 + 128) % 128 = n % 128 := by omega
      have hd : n % 128 * 128 ^ i + n / 128 * 128 ^ (i + 1) = n * 128 ^ i := by
        rw [Nat.pow_succ, Nat.mul_comm (128 ^ i) 128, ← Nat.mul_assoc, ← Nat.add_mul]
        congr 1; omega
      simp only [List.cons_append, rdN, toNat_ofNat (show n % 128 + 128 < 256 by omega), List.length_cons, hm]
      rw [if_neg (by omega), if_pos (by omega), ih (n / 128) (by omega) (i + 1) _ (by omega) (by omega) (by omega)]
      simp only [Prod.mk.injEq, and_true]
      exact ⟨by omega, by omega⟩
theorem rd_enc0 (n : Nat) (rest : List UInt8) (h : n ≤ 4611686018427387904) : rdN 0 0 (encN n ++ rest) = (n, (encN n).length, 0) := by
  rw [rd_enc rest n 0 0 (by omega) (by omega) (by omega)]; simp

theorem rd_err : ∀ (l : List UInt8) (i a k s e : Nat), rdN i a l = (k, s, e) → (e = 0 ∨ e = 30 ∨ e = 31) ∧ (e ≠ 0 → k = 0 ∧ s = 0) := by
  intro l
  induction l with
  | nil => intro i a k s e h; simp only [rdN, Prod.mk.injEq] at h; omega
  | cons c l ih =>
    intro i a k s e h
    rw [rdN] at h
    split at h
    · simp only [Prod.mk.injEq] at h; omega
    · split at h
      · exact ih _ _ _ _ _ h
      · split at h <;> simp only [Prod.mk.injEq] at h <;> omega
theorem rd_back : ∀ (l : List UInt8) (i a k s : Nat), rdN i a l = (k, s, 0) →
    ∃ n, k = a + n * 128 ^ i ∧ encN n = l.take (s - i) ∧ i < s ∧ s ≤ i + l.length ∧ k ≤ 4611686018427387904 ∧ (0 < i → 0 < n) := by
  intro l
  induction l with
  | nil => intro i a k s h; simp only [rdN, Prod.mk.injEq] at h; omega
  | cons c l ih =>
    intro i a k s h
    have hc : c.toNat < 256 := c.toNat_lt
    rw [rdN] at h
    split at h
    · simp only [Prod.mk.injEq] at h; omega
    · split at h
      next h128 =>
        obtain ⟨n, hk, he, hs, hl, hb, hp⟩ := ih _ _ _ _ h
        have hp := hp (by omega)
        refine ⟨n * 128 + c.toNat % 128, ?_, ?_, by omega, by simp; omega, hb, by omega⟩
        · rw [hk, Nat.pow_succ, Nat.add_mul, Nat.mul_comm (128 ^ i) 128, ← Nat.mul_assoc]; omega
        · rw [encN_big (by omega), show s - i = (s - (i + 1)) + 1 by omega, List.take_succ_cons]
          have e1 : (n * 128 + c.toNat % 128) % 128 + 128 = c.toNat := by omega
          have e2 : (n * 128 + c.toNat % 128) / 128 = n := by omega
          rw [e1, e2, ofNat_toNat, he]
      next h128 =>
        split at h
        · simp only [Prod.mk.injEq] at h; omega
        next hno =>
          simp only [Prod.mk.injEq] at h
          obtain ⟨rfl, rfl, _⟩ := h
          refine ⟨c.toNat, rfl, ?_, by omega, by simp, by omega, by omega⟩
          rw [encN_small (by omega), ofNat_toNat, show i + 1 - i = 1 by omega]; rfl
theorem rd_back0 {l : List UInt8} {k s : Nat} (h : rdN 0 0 l = (k, s, 0)) : encN k = l.take s ∧ 0 < s ∧ s ≤ l.length ∧ k ≤ 4611686018427387904 := by
  obtain ⟨n, hk, he, hs, hl, hb, _⟩ := rd_back l 0 0 k s h
  have : k = n := by rw [hk]; simp
  subst this
  exact ⟨by simpa using he, hs, by omega, hb⟩
theorem rd_len {l : List UInt8} {k s e : Nat} (h : rdN 0 0 l = (k, s, e)) : s ≤ l.length := by
  by_cases he : e = 0
  · subst he; exact (rd_back0 h).2.2.1
  · have := (rd_err _ _ _ _ _ _ h).2 he; omega
end Go.Proofs.Ythhjdielananeaa.L3
