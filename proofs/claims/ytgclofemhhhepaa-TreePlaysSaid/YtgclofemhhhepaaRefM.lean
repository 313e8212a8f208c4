/-
  The document's tree: what is missing.
-/
import Derived.Test.YtgclofemhhhepaaRefP
import Derived.Test.YtgclofemhhhepaaMiss
set_option linter.unusedSimpArgs false
set_option linter.unusedVariables false
set_option maxRecDepth 10000
namespace Go.Proofs.Ytgclofemhhhepaa
open Go.RowKit Go.Maps Go.Lib
open L3 (Blk Reads block_of_add add_of_add)
open L6 (Turn moreB fresh From In)

/-! Plainly -/
def anyGe (p : Int) (l : List Int) : Bool := l.any fun x => decide (p ≤ x)
/-- What stands in the new list behind some numbers of the old one. -/
def outL (p : Int) (l : List Int) : List Int := if anyGe p l then insU p l else l
theorem anyGe_snoc (p x : Int) (l : List Int) : anyGe p (l ++ [x]) = (anyGe p l || decide (p ≤ x)) := by simp [anyGe]
theorem insU_snoc_lt {p x : Int} (l : List Int) (h : p < x) : insU p (l ++ [x]) = insU p l ++ [x] := by
  unfold insU
  rw [List.filter_append, List.filter_append]
  simp only [List.filter_cons, List.filter_nil]
  have h1 : decide (x < p) = false := by simpa using by omega
  have h2 : decide (p < x) = true := by simpa using h
  simp [h1, h2]
theorem all_lt {p : Int} {l : List Int} (h : anyGe p l = false) : ∀ y ∈ l, y < p := by
  intro y hy
  unfold anyGe at h
  rw [List.any_eq_false] at h
  have := h y hy
  simp at this
  exact this
theorem insU_low {p : Int} {l : List Int} (h : anyGe p l = false) : insU p l = l ++ [p] := by
  have h1 := all_lt h
  unfold insU
  rw [List.filter_eq_self.2 (fun y hy => by simpa using h1 y hy), List.filter_eq_nil_iff.2 (fun y hy => by have := h1 y hy; simp; omega)]
theorem outL_yes {p x : Int} {l : List Int} (h : anyGe p l = true) (hx : p < x) : anyGe p (l ++ [x]) = true ∧ outL p (l ++ [x]) = outL p l ++ [x] := by
  have h2 : anyGe p (l ++ [x]) = true := by rw [anyGe_snoc, h]; rfl
  refine ⟨h2, ?_⟩
  unfold outL
  rw [if_pos h2, if_pos h, insU_snoc_lt l hx]
theorem outL_same {p : Int} {l : List Int} (h : anyGe p l = false) : anyGe p (l ++ [p]) = true ∧ outL p (l ++ [p]) = outL p l ++ [p] := by
  have h2 : anyGe p (l ++ [p]) = true := by rw [anyGe_snoc]; simp
  refine ⟨h2, ?_⟩
  unfold outL
  rw [if_pos h2, if_neg (by simp [h])]
  have : insU p (l ++ [p]) = insU p l := by
    unfold insU
    rw [List.filter_append, List.filter_append]
    simp
  rw [this, insU_low h]
theorem outL_over {p x : Int} {l : List Int} (h : anyGe p l = false) (hx : p < x) : anyGe p (l ++ [x]) = true ∧ outL p (l ++ [x]) = outL p l ++ [p] ++ [x] := by
  have h2 : anyGe p (l ++ [x]) = true := by rw [anyGe_snoc]; simp; right; omega
  refine ⟨h2, ?_⟩
  unfold outL
  rw [if_pos h2, if_neg (by simp [h]), insU_snoc_lt l hx, insU_low h]
theorem outL_low {p x : Int} {l : List Int} (h : anyGe p l = false) (hx : x < p) : anyGe p (l ++ [x]) = false ∧ outL p (l ++ [x]) = outL p l ++ [x] := by
  have h2 : anyGe p (l ++ [x]) = false := by rw [anyGe_snoc, h]; simp; omega
  refine ⟨h2, ?_⟩
  unfold outL
  rw [if_neg (by simp [h2]), if_neg (by simp [h])]
theorem ge_rising {p : Int} {l : List Int} {q : Nat} (hr : l.Pairwise (· < ·)) (hq : q < l.length) (h : anyGe p (l.take q) = true) : p < l[q] := by
  unfold anyGe at h
  rw [List.any_eq_true] at h
  obtain ⟨y, hy, hp⟩ := h
  obtain ⟨j, hj, rfl⟩ := List.getElem_of_mem hy
  rw [List.length_take] at hj
  have := List.pairwise_iff_getElem.1 hr j q (by omega) hq (by omega)
  rw [List.getElem_take] at hp
  have hp2 : p ≤ l[j] := by simpa using hp
  omega
theorem two_filters (p : Int) : ∀ l : List Int, (l.filter fun y => decide (y < p)).length + (l.filter fun y => decide (p < y)).length ≤ l.length
  | [] => by simp
  | x :: l => by
    have ih := two_filters p l
    simp only [List.filter_cons]
    by_cases a : x < p
    · have b : ¬ p < x := by omega
      simp [a, b]; omega
    · by_cases b : p < x
      · simp [a, b]; omega
      · simp [a, b]; omega
theorem insU_len (p : Int) (l : List Int) : (insU p l).length ≤ l.length + 1 := by
  have := two_filters p l
  unfold insU
  simp
  omega
theorem outL_len (p : Int) (l : List Int) : (outL p l).length ≤ l.length + 1 := by
  unfold outL
  split
  · exact insU_len p l
  · omega
theorem outL_end {p : Int} {l : List Int} : (anyGe p l = true → outL p l = insU p l) ∧ (anyGe p l = false → outL p l ++ [p] = insU p l) := by
  constructor
  · intro h; unfold outL; rw [if_pos h]
  · intro h; unfold outL; rw [if_neg (by simp [h]), insU_low h]
/-- What is missing of the first entries. -/
def missF (L : List Ent) : Nat → List Int
  | 0 => []
  | k + 1 => if h : k < L.length then (if L[k].isin = true ∨ known L L[k].p then missF L k else insU L[k].p (missF L k)) else missF L k
theorem missF_snoc {L : List Ent} {k : Nat} (h : k < L.length) : missF L (k + 1) = if L[k].isin = true ∨ known L L[k].p then missF L k else insU L[k].p (missF L k) := by
  rw [missF, dif_pos h]
theorem missF_rising (L : List Ent) : ∀ k, (missF L k).Pairwise (· < ·)
  | 0 => List.Pairwise.nil
  | k + 1 => by
    rw [missF]
    split
    · split
      · exact missF_rising L k
      · exact insU_rising (missF_rising L k)
    · exact missF_rising L k
theorem missF_len (L : List Ent) : ∀ k, (missF L k).length ≤ k
  | 0 => by simp [missF]
  | k + 1 => by
    have ih := missF_len L k
    rw [missF]
    split
    · split
      · omega
      · have := insU_len (L[k].p) (missF L k); omega
    · omega
theorem missF_mem (L : List Ent) : ∀ k, ∀ x, x ∈ missF L k ↔ ∃ j, ∃ h : j < L.length, j < k ∧ L[j].isin = false ∧ ¬ known L L[j].p ∧ L[j].p = x
  | 0, x => by simp [missF]
  | k + 1, x => by
    have ih := missF_mem L k x
    rw [missF]
    split
    · next hk =>
      have step : (∃ j, ∃ h : j < L.length, j < k + 1 ∧ L[j].isin = false ∧ ¬ known L L[j].p ∧ L[j].p = x) ↔ (L[k].isin = false ∧ ¬ known L L[k].p ∧ L[k].p = x) ∨ ∃ j, ∃ h : j < L.length, j < k ∧ L[j].isin = false ∧ ¬ known L L[j].p ∧ L[j].p = x := by
        constructor
        · rintro ⟨j, h, hj, a⟩
          by_cases c : j = k
          · subst c; exact .inl a
          · exact .inr ⟨j, h, by omega, a⟩
        · rintro (a | ⟨j, h, hj, a⟩)
          · exact ⟨k, hk, by omega, a⟩
          · exact ⟨j, h, by omega, a⟩
      rw [step]
      split
      · next c =>
        rw [ih]
        constructor
        · exact .inr
        · rintro (⟨a, b, _⟩ | a)
          · rcases c with c | c
            · rw [a] at c; cases c
            · exact absurd c b
          · exact a
      · next c =>
        rw [insU_mem, ih]
        have c1 : L[k].isin = false := by
          cases hi : L[k].isin with
          | false => rfl
          | true => exact absurd (.inl hi) c
        have c2 : ¬ known L L[k].p := fun h => c (.inr h)
        constructor
        · rintro (a | a)
          · exact .inl ⟨c1, c2, a.symm⟩
          · exact .inr a
        · rintro (⟨_, _, a⟩ | a)
          · exact .inl a.symm
          · exact .inr a
    · next hk =>
      rw [ih]
      constructor
      · rintro ⟨j, h, hj, a⟩; exact ⟨j, h, by omega, a⟩
      · rintro ⟨j, h, hj, a⟩; exact ⟨j, h, by omega, a⟩
/-- By the code as by the document. -/
theorem miss_one {r : Int} {L : List Ent} (h1 : OneN r L) (h0 : InOk r L) {l : List Int} (hr : l.Pairwise (· < ·)) (hm : ∀ k, k ∈ l ↔ MissC L k) : l = missF L L.length := by
  refine rising_eq hr (missF_rising L _) fun k => ?_
  rw [hm, missF_mem]
  constructor
  · rintro ⟨e, he, hi, hp, ho⟩
    obtain ⟨j, hj, rfl⟩ := List.getElem_of_mem he
    refine ⟨j, hj, hj, hi, fun hk => ?_, hp⟩
    rw [hp] at hk
    rcases known_iff.1 hk with hk | hk
    · exact no_in h1 h0 _ he hi (by rw [hp]; exact .inr hk)
    · exact ho hk
  · rintro ⟨j, hj, _, hi, hk, hp⟩
    refine ⟨L[j], List.getElem_mem hj, hi, hp, fun ho => hk ?_⟩
    rw [hp]
    exact known_iff.2 (.inr ho)
end Go.Proofs.Ytgclofemhhhepaa
