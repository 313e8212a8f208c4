/-
  One signer more: plainly.
-/
import Derived.Test.YtomaaidhmccngaaGreatDoorV1
set_option linter.unusedSimpArgs false
set_option linter.unusedVariables false
namespace Go.Proofs.YtomaaidhmccngaaGreatDoor
open Go.RowKit Go.Maps Go.Lib
open L7 (Shr cntE enoughE allE firstE inN)
open L4 (more isF cnt bts)
open L11 (Crt mayV endV setV sgV okW stmV)

theorem firstE_zero {f : Int} {bad : Nat} {L : List Shr} {s : L7.Stm} : ∀ {l : List Nat}, firstE f bad L s l = 0 ↔ ∀ k ∈ l, cntE f bad L ⟨k, s⟩ = 0
  | [] => by simp [L7.firstE]
  | k :: ks => by
    rw [L7.firstE_cons]
    by_cases h : cntE f bad L ⟨k, s⟩ = 0
    · rw [if_pos h, firstE_zero]
      simp [h]
    · rw [if_neg h]
      simp [h]
theorem enoughE_zero {f : Int} {bad : Nat} {L : List Shr} {s : L7.Stm} {n : Nat} {least : Int} : enoughE f bad L s n least = 0 ↔ L4.checkV f n = 0 ∧ (∀ k ∈ bts 0 n, cntE f bad L ⟨k, s⟩ = 0) ∧ ¬ (cnt n : Int) < least := by
  unfold L7.enoughE L7.allE
  by_cases h : L4.checkV f n = 0
  · rw [if_pos h]
    by_cases h2 : firstE f bad L s (bts 0 n) = 0
    · rw [if_pos h2]
      have h3 := firstE_zero.1 h2
      by_cases h4 : (cnt n : Int) < least
      · rw [if_pos h4]; simp [h4]
      · rw [if_neg h4]; exact ⟨fun _ => ⟨h, h3, h4⟩, fun _ => rfl⟩
    · rw [if_neg h2]
      exact ⟨fun h3 => absurd h3 h2, fun h3 => absurd (firstE_zero.2 h3.2.1) h2⟩
  · rw [if_neg h, if_neg h]
    exact ⟨fun h3 => absurd h3 h, fun h3 => absurd h3.1 h⟩
/-- A certificate with one signer more. -/
def moreC (c : Crt) (k : Nat) : Crt := { c with sg := c.sg ||| 2 ^ k }
theorem mem_put {n k i : Nat} : i ∈ bts 0 (n ||| 2 ^ k) ↔ i ∈ bts 0 n ∨ i = k := by
  rw [L4.mem_bts, L4.mem_bts]
  simp only [Nat.zero_le, true_and, Nat.sub_zero, Nat.testBit_or, Bool.or_eq_true, Nat.testBit_two_pow, decide_eq_true_eq]
  constructor
  · rintro (h | h)
    · exact .inl h
    · exact .inr h.symm
  · rintro (h | h)
    · exact .inl h
    · exact .inr h.symm
theorem more_check {f : Int} {n k : Nat} (h : L4.checkV f n = 0) (hk : inN f (k : Int) = true) : L4.checkV f (n ||| 2 ^ k) = 0 := by
  unfold L4.checkV at h ⊢
  by_cases hf : isF f = true
  · rw [if_pos hf] at h ⊢
    by_cases hn : n < 2 ^ (more 3 f).toNat
    · have h2 := L7.inN_in hk
      have hkm : k < (more 3 f).toNat := by omega
      rw [if_pos (Nat.or_lt_two_pow hn (Nat.pow_lt_pow_right (by decide) hkm))]
    · rw [if_neg hn] at h
      omega
  · rw [if_neg hf] at h
    omega
theorem certE_zero {R : Regs} {c : Crt} (hk : c.kind ≠ 0) : certE R c = 0 ↔ mayV c = true ∧ fitE R c = 0 ∧ sigE R c = 0 ∧ elcE R c = 0 := by
  unfold certE
  by_cases hm : mayV c = false
  · rw [if_pos hm]; simp [hm]
  · rw [if_neg hm, if_neg hk]
    have hm' : mayV c = true := by simpa using hm
    by_cases h1 : fitE R c = 0
    · by_cases h2 : sigE R c = 0
      · simp [h1, h2, hm']
      · simp [h1, h2]
    · simp [h1]
theorem more_val {R : Regs} {c : Crt} {k : Nat} (hR : R.wf) (hc : certE R c = 0) (hk : c.kind ≠ 0) : certE R (moreC c k) = 0 ↔ cntE R.f R.bad R.L (shrOf k (stmV c)) = 0 := by
  have hk' : (moreC c k).kind ≠ 0 := hk
  obtain ⟨h1, h2, h3, h4⟩ := (certE_zero hk).1 hc
  have e2 : fitE R (moreC c k) = fitE R c := rfl
  have e4 : elcE R (moreC c k) = elcE R c := rfl
  have es : stmV (moreC c k) = stmV c := rfl
  have hs := h3
  unfold sigE at hs
  obtain ⟨s1, s2, s3⟩ := enoughE_zero.1 hs
  rw [certE_zero hk', e2, e4]
  constructor
  · rintro ⟨_, _, h, _⟩
    unfold sigE at h
    rw [es] at h
    exact (enoughE_zero.1 h).2.1 k (mem_put.2 (.inr rfl))
  · intro h
    have hin : inN R.f (k : Int) = true := by
      unfold L7.cntE at h
      by_cases hi : inN R.f (shrOf k (stmV c)).k = true
      · exact hi
      · rw [if_neg hi] at h; omega
    have hk10 : k < 10 := by
      have := L7.inN_in hin
      have h0 := hR.hf
      unfold L4.more at this
      rw [if_pos h0] at this
      have : 1 ≤ R.f ∧ R.f ≤ 3 := by unfold L4.isF at h0; simpa using h0
      omega
    refine ⟨?_, h2, ?_, h4⟩
    · have hlt : ∀ n, setV n = true → setV (n ||| 2 ^ k) = true := fun n hn => by
        unfold L11.setV at *
        have := of_decide_eq_true hn
        exact decide_eq_true (Nat.or_lt_two_pow (n := 10) this (Nat.pow_lt_pow_right (by decide) hk10))
      have hne : c.sg ||| 2 ^ k ≠ 0 := by
        intro h0
        have := (Nat.right_le_or : 2 ^ k ≤ c.sg ||| 2 ^ k)
        have := Nat.two_pow_pos k
        omega
      have hsg : sgV c = true → sgV (moreC c k) = true := by
        unfold L11.sgV
        simp only [Bool.and_eq_true, Bool.not_eq_true', decide_eq_false_iff_not]
        rintro ⟨⟨⟨⟨a, b⟩, d⟩, _⟩, e⟩
        exact ⟨⟨⟨⟨a, b⟩, d⟩, hne⟩, hlt _ e⟩
      unfold L11.mayV at h1 ⊢
      have ek : (moreC c k).kind = c.kind := rfl
      rw [if_neg hk] at h1
      rw [ek, if_neg hk]
      split at h1
      · rename_i h11
        rw [if_pos h11]
        simp only [Bool.and_eq_true] at h1 ⊢
        exact ⟨⟨⟨hsg h1.1.1.1, h1.1.1.2⟩, h1.1.2⟩, h1.2⟩
      · rename_i h11
        rw [if_neg h11]
        split at h1
        · rename_i h12
          rw [if_pos h12]
          simp only [Bool.and_eq_true] at h1 ⊢
          exact ⟨⟨⟨hsg h1.1.1.1, h1.1.1.2⟩, h1.1.2⟩, h1.2⟩
        · cases h1
    · unfold sigE
      rw [es]
      refine enoughE_zero.2 ⟨more_check s1 hin, fun i hi => ?_, ?_⟩
      · rcases mem_put.1 hi with hi | rfl
        · exact s2 i hi
        · exact h
      · have := L4.cnt_put c.sg k
        have e : (moreC c k).sg = c.sg ||| 2 ^ k := rfl
        rw [e, this]
        split <;> omega
end Go.Proofs.YtomaaidhmccngaaGreatDoor
