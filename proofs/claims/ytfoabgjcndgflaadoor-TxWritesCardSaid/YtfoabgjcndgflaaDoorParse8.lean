/-
  Words as a transaction, plainly: two ways of saying it.
-/
import Derived.Test.YtfoabgjcndgflaaDoorSaidT
set_option linter.unusedSimpArgs false
set_option linter.unusedVariables false
namespace Go.Proofs.YtfoabgjcndgflaaDoor
open Go.RowKit Go.Lib

theorem read_none {l : List UInt8} (h : L1.readE l 1 top62 ≠ 0) : L1.readV l 1 top62 = 0 := by
  unfold L1.readE at h
  unfold L1.readV
  cases hf : L1.form l
  · rfl
  · rw [hf] at h
    cases ho : L1.okR l 1 top62
    · rfl
    · rw [ho] at h; exact absurd rfl h
theorem read_some {l : List UInt8} (h : L1.readE l 1 top62 = 0) : posN (L1.readV l 1 top62) = true := by
  unfold L1.readE at h
  unfold L1.readV
  cases hf : L1.form l
  · rw [hf] at h; simp at h
  · rw [hf] at h
    cases ho : L1.okR l 1 top62
    · rw [ho] at h; simp at h
    · unfold L1.okR at ho
      simp only [Bool.and_eq_true, decide_eq_true_eq] at ho
      unfold posN
      simp only [Bool.and_self, if_true, decide_eq_true_eq]
      unfold top62 at ho
      exact ho.2
theorem num_pos (l : List UInt8) : posN (numW l) = decide (L1.readE l 1 top62 = 0) := by
  unfold numW
  by_cases h : L1.readE l 1 top62 = 0
  · rw [read_some h, decide_eq_true h]
  · rw [read_none h, decide_eq_false h]; rfl
theorem suffix_iff (l : List UInt8) : hasSuffix l [58] = true ↔ l.getLast? = some 58 := by
  unfold hasSuffix
  rw [List.isSuffixOf_iff_suffix]
  constructor
  · rintro ⟨p, rfl⟩; simp
  · intro h
    have hne : l ≠ [] := by intro e; rw [e] at h; cases h
    refine ⟨l.dropLast, ?_⟩
    have h1 := List.dropLast_concat_getLast hne
    rw [List.getLast?_eq_some_getLast hne] at h
    injection h with h
    rw [h] at h1
    exact h1
theorem trim_last {l : List UInt8} (h : hasSuffix l [58] = true) : trimSuffix l [58] = l.dropLast := by
  unfold trimSuffix
  rw [if_pos h, List.dropLast_eq_take]
  rfl
theorem posN_zero : posN 0 = false := by decide
theorem nonce_pos (a : List UInt8) : posN (nonceW a) = true ↔ ¬ (a.length < 2 ∨ a.getLast? ≠ some 58) ∧ L1.readE a.dropLast 1 top62 = 0 := by
  unfold nonceW
  by_cases hs : hasSuffix a [58] = true
  · rw [if_pos hs, num_pos, trim_last hs, decide_eq_true_eq]
    have hl := (suffix_iff a).1 hs
    constructor
    · intro h
      refine ⟨?_, h⟩
      rintro (h2 | h2)
      · have : a.dropLast = [] := List.eq_nil_of_length_eq_zero (by rw [List.length_dropLast]; omega)
        rw [this] at h
        revert h; decide +kernel
      · exact h2 hl
    · exact fun h => h.2
  · rw [if_neg hs]
    constructor
    · intro h; rw [posN_zero] at h; cases h
    · rintro ⟨h, _⟩
      exact absurd ((suffix_iff a).2 (by
        rcases Classical.em (a.getLast? = some 58) with h1 | h1
        · exact h1
        · exact absurd (.inr h1) h)) hs
theorem nonce_is {a : List UInt8} (h : posN (nonceW a) = true) : nonceW a = L1.readV a.dropLast 1 top62 := by
  have hs : hasSuffix a [58] = true := by
    rcases Bool.eq_false_or_eq_true (hasSuffix a [58]) with h1 | h1
    · exact h1
    · unfold nonceW at h; rw [if_neg (by rw [h1]; simp), posN_zero] at h; cases h
  unfold nonceW
  rw [if_pos hs, trim_last hs]; rfl
theorem right_nonce {t : Txx} (h : posN t.nonce = false) : right t = false := by unfold right; rw [h]; rfl
theorem right_kind0 {t : Txx} (h : t.kind = 0) : right t = false := by unfold right; rw [h]; simp
theorem right_amount {t : Txx} (hk : t.kind = 1) (h : posN t.amount = false) : right t = false := by unfold right; rw [hk, h]; simp
/-- What words say, if it is right, is what the text says. -/
theorem form_said (a0 a1 a2 a3 a4 a5 a6 : List UInt8) : formT [a0, a1, a2, a3, a4, a5] a6 = if a5 = wTo ∧ right (saidT a0 a1 a2 a3 a4 a6) = true then some (saidT a0 a1 a2 a3 a4 a6) else none := by
  have hno : posN (nonceW a1) = false → right (saidT a0 a1 a2 a3 a4 a6) = false := fun h => right_nonce (by
    have : (saidT a0 a1 a2 a3 a4 a6).nonce = nonceW a1 := by unfold saidT; (repeat' split) <;> rfl
    rw [this]; exact h)
  unfold formT
  simp only [List.getD_cons_zero, List.getD_cons_succ]
  by_cases h5 : a5 = wTo
  · rcases Bool.eq_false_or_eq_true (posN (nonceW a1)) with hn | hn
    · obtain ⟨g1, g2⟩ := (nonce_pos a1).1 hn
      rw [if_neg (fun h => h.elim (fun h => g1 (.inl h)) (fun h => h.elim (fun h => g1 (.inr h)) (fun h => h h5))), if_neg (fun h => h g2), ← nonce_is hn]
      by_cases q : a0 = wMove ∧ a3 = wGives
      · have e : saidT a0 a1 a2 a3 a4 a6 = ⟨1, a2, a6, [], [], numW a4, nonceW a1⟩ := by unfold saidT; rw [if_pos q]
        rw [if_pos q, e]
        by_cases r : L1.readE a4 1 top62 = 0
        · rw [if_neg (fun h => h r)]
          unfold rightO numW
          simp only [h5, true_and]
        · have hr : right ⟨1, a2, a6, [], [], numW a4, nonceW a1⟩ = false := right_amount rfl (by show posN (numW a4) = false; rw [num_pos]; exact decide_eq_false r)
          rw [if_pos r, hr, if_neg (by simp)]
      · rw [if_neg q]
        by_cases p : a0 = wPut ∧ a3 = wSets
        · have e : saidT a0 a1 a2 a3 a4 a6 = ⟨2, a2, [], a4, a6, 0, nonceW a1⟩ := by unfold saidT; rw [if_neg q, if_pos p]
          rw [if_pos p, e]
          unfold rightO
          simp only [h5, true_and]
        · have e : saidT a0 a1 a2 a3 a4 a6 = ⟨0, a2, [], [], [], 0, nonceW a1⟩ := by unfold saidT; rw [if_neg q, if_neg p]
          rw [if_neg p, e, right_kind0 rfl, if_neg (by simp)]
    · rw [hno hn, if_neg (show ¬ (a5 = wTo ∧ false = true) by simp)]
      by_cases g1 : a1.length < 2 ∨ a1.getLast? ≠ some 58 ∨ a5 ≠ wTo
      · rw [if_pos g1]
      · rw [if_neg g1, if_pos]
        intro h
        have := (nonce_pos a1).2 ⟨fun h' => g1 (h'.elim .inl (fun h' => .inr (.inl h'))), h⟩
        rw [hn] at this
        cases this
  · rw [if_pos (.inr (.inr h5)), if_neg (fun h => h5 h.1)]
end Go.Proofs.YtfoabgjcndgflaaDoor
