/-
  What is read without an error was written so: numbers, texts, transactions, certificates; plainly, over lists of bytes.
-/
import Derived.Test.YtkjkkbionlmohaaDoorTx
import Derived.Test.YtkjkkbionlmohaaDoorL11
set_option linter.unusedSimpArgs false
set_option linter.unusedVariables false
namespace Go.Proofs.YtkjkkbionlmohaaDoor
open Go.RowKit Go.Lib
open L2 (chk vlu)
open L3 (encN encs rdN numS textS textV mostV mostS failS)

theorem fail_zero {e : Int} {p : List UInt8 × Int} (h : (failS e p).2 = 0) : p.2 = 0 ∧ e = 0 ∧ failS e p = p := by
  unfold L3.failS at h ⊢
  by_cases hc : p.2 ≠ 0 ∨ e = 0
  · rw [if_pos hc] at h ⊢
    rcases hc with hc | hc
    · exact absurd h hc
    · exact ⟨h, hc, rfl⟩
  · rw [if_neg hc] at h
    exact absurd (.inr h) hc
theorem num_canon {p : List UInt8 × Int} (h : (numS p).2 = 0) : p.2 = 0 ∧ p.1 = encN (numV p).toNat ++ (numS p).1 ∧ 0 ≤ numV p ∧ numV p ≤ 4611686018427387904 := by
  obtain ⟨k, s, e, hq⟩ : ∃ k s e, rdN 0 0 p.1 = (k, s, e) := ⟨_, _, _, rfl⟩
  unfold L3.numS at h ⊢
  unfold numV
  rw [hq] at h ⊢
  dsimp only at h ⊢
  by_cases he : e = 0
  · subst he
    rw [if_pos rfl] at h ⊢
    obtain ⟨h1, h2, h3, h4⟩ := L3.rd_back0 hq
    refine ⟨h, ?_, by omega, by omega⟩
    show p.1 = encN ((k : Int)).toNat ++ p.1.drop s
    rw [Int.toNat_natCast, h1, List.take_append_drop]
  · rw [if_neg he] at h
    have := (fail_zero h).2.1
    omega
theorem most_canon {m : Int} {p : List UInt8 × Int} (h : (mostS m p).2 = 0) : (numS p).2 = 0 ∧ mostV m p = numV p ∧ mostS m p = numS p ∧ numV p ≤ m := by
  unfold L3.mostS at h ⊢
  unfold L3.mostV numV
  by_cases hm : m < ((rdN 0 0 p.1).1 : Int)
  · rw [if_pos hm] at h
    have := (fail_zero h).2.1
    omega
  · rw [if_neg hm] at h ⊢
    rw [if_neg hm]
    exact ⟨h, rfl, rfl, by omega⟩
theorem text_canon {p : List UInt8 × Int} (h : (textS p).2 = 0) : p.2 = 0 ∧ p.1 = txtB (textV p) ++ (textS p).1 := by
  unfold L3.textS at h ⊢
  unfold L3.textV
  by_cases hl : ((mostS 65536 p).1.length : Int) < mostV 65536 p
  · rw [if_pos hl] at h
    have := (fail_zero h).2.1
    omega
  · rw [if_neg hl] at h ⊢
    rw [if_neg hl]
    obtain ⟨h1, h2, h3, h4⟩ := most_canon (m := 65536) (p := p) h
    obtain ⟨k1, k2, k3, k4⟩ := num_canon h1
    rw [h3] at hl ⊢
    rw [h2] at hl ⊢
    refine ⟨k1, ?_⟩
    have e : (List.take (numV p).toNat (numS p).1).length = (numV p).toNat := by rw [List.length_take]; omega
    unfold txtB
    rw [e, List.append_assoc, List.take_append_drop]
    exact k2
theorem end_canon {t : Txx} {p : List UInt8 × Int} (h : (endT t p).2.2 = 0) : p.2 = 0 ∧ right t = true ∧ endT t p = (t, p) := by
  unfold endT at h ⊢
  by_cases hc : p.2 ≠ 0 ∨ right t = false
  · rw [if_pos hc] at h
    have := (fail_zero h).2.1
    omega
  · rw [if_neg hc] at h ⊢
    exact ⟨h, by cases hr : right t with | true => rfl | false => exact absurd (.inr hr) hc, rfl⟩
/-- A transaction that is taken was written so. -/
theorem takeT_canon {p : List UInt8 × Int} (h : (takeT p).2.2 = 0) : p.2 = 0 ∧ right (takeT p).1 = true ∧ p.1 = bytesT (takeT p).1 ++ (takeT p).2.1 := by
  unfold takeT at h ⊢
  by_cases h0 : numV p ≠ 1 ∧ numV p ≠ 2
  · rw [if_pos h0] at h
    have := (fail_zero h).2.1
    omega
  · rw [if_neg h0] at h ⊢
    generalize hp1 : numS p = p1 at h ⊢
    generalize hp2 : numS p1 = p2 at h ⊢
    generalize hp3 : textS p2 = p3 at h ⊢
    by_cases h1 : numV p = 1
    · rw [if_pos h1] at h ⊢
      obtain ⟨k4, r4, e4⟩ := end_canon h
      rw [e4]
      obtain ⟨k3, b3, _⟩ := num_canon k4
      generalize hp4 : textS p3 = p4 at *
      obtain ⟨k2, b2⟩ := text_canon (p := p3) (by rw [hp4]; exact k3)
      obtain ⟨k1, b1⟩ := text_canon (p := p2) (by rw [hp3]; exact k2)
      obtain ⟨k0, b0, _⟩ := num_canon (p := p1) (by rw [hp2]; exact k1)
      obtain ⟨k, b, _⟩ := num_canon (p := p) (by rw [hp1]; exact k0)
      refine ⟨k, r4, ?_⟩
      rw [b, hp1, b0, hp2, b1, hp3, b2, hp4, b3, h1]
      unfold bytesT
      rw [if_pos rfl]
      simp
    · rw [if_neg h1] at h ⊢
      have h2 : numV p = 2 := by
        rcases Classical.em (numV p = 2) with h2 | h2
        · exact h2
        · exact absurd ⟨h1, h2⟩ h0
      obtain ⟨k4, r4, e4⟩ := end_canon h
      rw [e4]
      generalize hp4 : textS p3 = p4 at *
      obtain ⟨k3, b3⟩ := text_canon (p := p4) k4
      obtain ⟨k2, b2⟩ := text_canon (p := p3) (by rw [hp4]; exact k3)
      obtain ⟨k1, b1⟩ := text_canon (p := p2) (by rw [hp3]; exact k2)
      obtain ⟨k0, b0, _⟩ := num_canon (p := p1) (by rw [hp2]; exact k1)
      obtain ⟨k, b, _⟩ := num_canon (p := p) (by rw [hp1]; exact k0)
      refine ⟨k, r4, ?_⟩
      rw [b, hp1, b0, hp2, b1, hp3, b2, hp4, b3, h2]
      unfold bytesT
      rw [if_neg (show ¬ (2 : Int) = 1 by decide)]
      simp

open L11 (Crt readC takeC fitV fitU nS mayV bytesV numsV sgV)
theorem fit_back {n : Int} (h0 : 0 ≤ n) (h : 0 ≤ fitV n) : fitV n = n := by unfold L11.fitV at h ⊢; split at h <;> (first | omega | rfl)
theorem fit_back_u {n : Int} (h0 : 0 ≤ n) (h : fitU n < 1024) : (fitU n : Int) = n := by
  unfold L11.fitU at h ⊢
  split at h
  · omega
  · rename_i hn; rw [if_neg hn]; omega
theorem nV (p : List UInt8 × Int) : L11.numV p = numV p := rfl
theorem nS_canon {k : Nat} {p : List UInt8 × Int} (h : (nS (k + 1) p).2 = 0) : (nS k p).2 = 0 ∧ (nS k p).1 = encN (numV (nS k p)).toNat ++ (nS (k + 1) p).1 := by
  have := num_canon (p := nS k p) h
  exact ⟨this.1, this.2.1⟩
theorem one_canon {n : Int} {l r : List UInt8} (h : l = encN n.toNat ++ r) : l = encs [n] ++ r := by rw [h]; simp [L3.encs]
/-- A certificate that is taken was written so. -/
theorem takeC_canon {p : List UInt8 × Int} (h : (takeC p).2.2 = 0) : p.2 = 0 ∧ mayV (takeC p).1 = true ∧ p.1 = bytesV (takeC p).1 ++ (takeC p).2.1 := by
  have e : (readC p).2.2 = 0 ∧ mayV (readC p).1 = true ∧ takeC p = readC p := by
    unfold L11.takeC at h ⊢
    by_cases hc : (readC p).2.2 ≠ 0 ∨ mayV (readC p).1 = false
    · rw [if_pos hc] at h
      have := (fail_zero h).2.1
      omega
    · rw [if_neg hc] at h ⊢
      exact ⟨h, by cases hr : mayV (readC p).1 with | true => rfl | false => exact absurd (.inr hr) hc, rfl⟩
  obtain ⟨h2, hm, ht⟩ := e
  rw [ht]
  clear ht h
  have hn : ∀ k, 0 ≤ L11.numV (nS k p) := fun k => (L11.num_at _).1
  have hn0 : 0 ≤ L11.numV p := (L11.num_at _).1
  unfold L11.readC at h2 hm ⊢
  by_cases h1 : fitV (L11.numV p) = 1
  · rw [if_pos h1] at h2 hm ⊢
    obtain ⟨hs, -, -, -⟩ := L11.may_one hm rfl
    obtain ⟨a1, a2, a3, -, a4⟩ := L11.sg_facts hs
    dsimp only at h2 a1 a2 a3 a4
    have v0 := fit_back hn0 (by omega)
    have v1 := fit_back (hn 1) (by omega)
    have v2 := fit_back (hn 2) (by omega)
    have v3 := fit_back (hn 3) (by omega)
    have v4 := fit_back_u (hn 4) a4
    obtain ⟨k4, b4⟩ := nS_canon (k := 4) h2
    obtain ⟨k3, b3⟩ := nS_canon (k := 3) k4
    obtain ⟨k2, b2⟩ := nS_canon (k := 2) k3
    obtain ⟨k1, b1⟩ := nS_canon (k := 1) k2
    obtain ⟨k0, b0⟩ := nS_canon (k := 0) k1
    refine ⟨k0, hm, ?_⟩
    have b0' : p.1 = encN (1 : Int).toNat ++ (nS 1 p).1 := by rw [show (1 : Int) = L11.numV p by rw [← v0]; exact h1.symm]; exact b0
    rw [v1, v2, v3]
    show p.1 = bytesV _ ++ (nS 5 p).1
    rw [b0', b1, b2, b3, b4]
    unfold L11.bytesV L11.numsV
    rw [if_neg (show ¬ (1 : Int) = 0 by decide), if_pos rfl]
    dsimp only
    rw [v4]
    simp [L3.encs, nV]
  · rw [if_neg h1] at h2 hm ⊢
    by_cases h3 : fitV (L11.numV p) = 2
    · rw [if_pos h3] at h2 hm ⊢
      obtain ⟨-, hs, c1, c2, c3⟩ := L11.may_two hm (show (2 : Int) ≠ 0 by decide) (show (2 : Int) ≠ 1 by decide)
      obtain ⟨a1, a2, a3, -, a4⟩ := L11.sg_facts hs
      dsimp only at h2 a1 a2 a3 a4 c1 c2 c3
      have v0 := fit_back hn0 (by omega)
      have v1 := fit_back (hn 1) (by omega)
      have v2 := fit_back (hn 2) (by omega)
      have v3 := fit_back (hn 3) (by omega)
      have v4 := fit_back_u (hn 4) a4
      have v5 := fit_back (hn 5) (by omega)
      have v6 := fit_back (hn 6) (by omega)
      have v7 := fit_back_u (hn 7) c3
      obtain ⟨k7, b7⟩ := nS_canon (k := 7) h2
      obtain ⟨k6, b6⟩ := nS_canon (k := 6) k7
      obtain ⟨k5, b5⟩ := nS_canon (k := 5) k6
      obtain ⟨k4, b4⟩ := nS_canon (k := 4) k5
      obtain ⟨k3, b3⟩ := nS_canon (k := 3) k4
      obtain ⟨k2, b2⟩ := nS_canon (k := 2) k3
      obtain ⟨k1, b1⟩ := nS_canon (k := 1) k2
      obtain ⟨k0, b0⟩ := nS_canon (k := 0) k1
      refine ⟨k0, hm, ?_⟩
      have b0' : p.1 = encN (2 : Int).toNat ++ (nS 1 p).1 := by rw [show (2 : Int) = L11.numV p by rw [← v0]; exact h3.symm]; exact b0
      rw [v1, v2, v3, v5, v6]
      show p.1 = bytesV _ ++ (nS 8 p).1
      rw [b0', b1, b2, b3, b4, b5, b6, b7]
      unfold L11.bytesV L11.numsV
      rw [if_neg (show ¬ (2 : Int) = 0 by decide), if_neg (show ¬ (2 : Int) = 1 by decide)]
      dsimp only
      rw [v4, v7]
      simp [L3.encs, nV]
    · rw [if_neg h3] at h2 hm ⊢
      have hk : fitV (L11.numV p) = 0 := by
        unfold L11.mayV at hm
        dsimp only at hm
        by_cases hz : fitV (L11.numV p) = 0
        · exact hz
        · rw [if_neg hz, if_neg h1, if_neg h3] at hm; cases hm
      have v0 := fit_back hn0 (by omega)
      obtain ⟨k0, b0⟩ := nS_canon (k := 0) h2
      refine ⟨k0, hm, ?_⟩
      have b0' : p.1 = encN (0 : Int).toNat ++ (nS 1 p).1 := by rw [show (0 : Int) = L11.numV p by rw [← v0]; exact hk.symm]; exact b0
      show p.1 = bytesV _ ++ (nS 1 p).1
      rw [hk]
      unfold L11.bytesV L11.numsV
      rw [if_pos rfl]
      rw [b0']
      simp [L3.encs]
end Go.Proofs.YtkjkkbionlmohaaDoor
