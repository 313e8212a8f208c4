/-
  A text's words, cut at blanks, plainly: as a list that may be short.
-/
import Derived.Test.YtfoabgjcndgflaaDoorTx
set_option linter.unusedSimpArgs false
set_option linter.unusedVariables false
namespace Go.Proofs.YtfoabgjcndgflaaDoor
open Go.RowKit Go.Lib
open L2 (dec)

/-- Cut at the first n blanks at most. -/
def cutsL : Nat → List UInt8 → List (List UInt8)
  | 0, l => [l]
  | n + 1, l => match cutW l with
    | none => [l]
    | some p => p.1 :: cutsL n p.2
theorem cutsL_none {l : List UInt8} (h : cutW l = none) : ∀ n, cutsL n l = [l]
  | 0 => rfl
  | n + 1 => by rw [cutsL, h]
theorem cutsL_some {n : Nat} {l a r : List UInt8} (h : cutW l = some (a, r)) : cutsL (n + 1) l = a :: cutsL n r := by rw [cutsL, h]
theorem cutsL_len : ∀ (n : Nat) (l : List UInt8), 1 ≤ (cutsL n l).length ∧ (cutsL n l).length ≤ n + 1
  | 0, l => by simp [cutsL]
  | n + 1, l => by
    cases h : cutW l with
    | none => rw [cutsL_none h]; simp
    | some p => rw [cutsL_some (a := p.1) (r := p.2) h]; have := cutsL_len n p.2; simp; omega
theorem cuts_some : ∀ (n : Nat) (l : List UInt8) (a : List (List UInt8)) (z : List UInt8), cuts n l = some (a, z) → cutsL n l = a ++ [z] ∧ a.length = n
  | 0, l, a, z, h => by
    simp only [cuts, Option.some.injEq, Prod.mk.injEq] at h
    obtain ⟨rfl, rfl⟩ := h
    exact ⟨rfl, rfl⟩
  | n + 1, l, a, z, h => by
    unfold cuts at h
    cases hc : cutW l with
    | none => rw [hc] at h; cases h
    | some p =>
      rw [hc] at h
      simp only [Option.map_eq_some_iff] at h
      obtain ⟨⟨b, y⟩, h1, h2⟩ := h
      simp only [Prod.mk.injEq] at h2
      obtain ⟨rfl, rfl⟩ := h2
      obtain ⟨h3, h4⟩ := cuts_some n p.2 b y h1
      rw [cutsL_some (a := p.1) (r := p.2) hc, h3]
      exact ⟨rfl, by simp [h4]⟩
theorem cuts_none : ∀ (n : Nat) (l : List UInt8), cuts n l = none → (cutsL n l).length ≤ n
  | 0, l, h => by simp [cuts] at h
  | n + 1, l, h => by
    unfold cuts at h
    cases hc : cutW l with
    | none => rw [cutsL_none hc]; simp
    | some p =>
      rw [hc] at h
      simp only [Option.map_eq_none_iff] at h
      have := cuts_none n p.2 h
      rw [cutsL_some (a := p.1) (r := p.2) hc]
      simp; omega
/-- No word is longer than the text. -/
theorem cutW_len : ∀ (l a r : List UInt8), cutW l = some (a, r) → a.length + 1 + r.length = l.length
  | [], a, r, h => by simp [cutW] at h
  | c :: l, a, r, h => by
    unfold cutW at h
    split at h
    · simp only [Option.some.injEq, Prod.mk.injEq] at h
      obtain ⟨rfl, rfl⟩ := h
      simp; omega
    · simp only [Option.map_eq_some_iff] at h
      obtain ⟨⟨b, y⟩, h1, h2⟩ := h
      simp only [Prod.mk.injEq] at h2
      obtain ⟨rfl, rfl⟩ := h2
      have := cutW_len l b y h1
      simp at this ⊢; omega
theorem cutsL_le : ∀ (n : Nat) (l : List UInt8), ∀ x ∈ cutsL n l, x.length ≤ l.length
  | 0, l, x, h => by simp [cutsL] at h; rw [h]; exact Nat.le_refl _
  | n + 1, l, x, h => by
    cases hc : cutW l with
    | none => rw [cutsL_none hc] at h; simp at h; rw [h]; exact Nat.le_refl _
    | some p =>
      have hl := cutW_len l p.1 p.2 hc
      rw [cutsL_some (a := p.1) (r := p.2) hc] at h
      rcases List.mem_cons.1 h with h | h
      · rw [h]; omega
      · have := cutsL_le n p.2 x h; omega
/-- What stands from a to b. -/
def seg (l : List UInt8) (a b : Nat) : List UInt8 := (l.drop a).take (b - a)
/-- From a to b there is no blank. -/
def Clear (l : List UInt8) (a b : Nat) : Prop := cutW (l.drop a) = (cutW (l.drop b)).map fun p => (seg l a b ++ p.1, p.2)
theorem Clear.refl (l : List UInt8) (a : Nat) : Clear l a a := by
  unfold Clear seg
  simp
theorem seg_app (l : List UInt8) (a b k : Nat) (h : a ≤ b) : seg l a b ++ (l.drop b).take k = seg l a (b + k) := by
  unfold seg
  have e : l.drop b = (l.drop a).drop (b - a) := by rw [List.drop_drop]; congr 1; omega
  rw [e, show b + k - a = (b - a) + k by omega, List.take_add]
theorem Clear.step {l : List UInt8} {a b : Nat} (h : Clear l a b) (hab : a ≤ b) (hb : l.drop b ≠ []) (hc : (dec (l.drop b)).1 ≠ 32) : Clear l a (b + (dec (l.drop b)).2) := by
  unfold Clear at h ⊢
  rw [h, cutW_dec _ hb, if_neg hc, Option.map_map, List.drop_drop]
  have e := seg_app l a b (dec (l.drop b)).2 hab
  congr 1
  funext p
  simp only [Function.comp]
  rw [← List.append_assoc, e]
theorem Clear.blank {l : List UInt8} {a b : Nat} (h : Clear l a b) (hb : l.drop b ≠ []) (hc : (dec (l.drop b)).1 = 32) : cutW (l.drop a) = some (seg l a b, l.drop (b + 1)) ∧ (dec (l.drop b)).2 = 1 := by
  unfold Clear at h
  rw [h, cutW_dec _ hb, if_pos hc, Option.map_some, List.drop_drop]
  exact ⟨by simp, (dec_32 _ hc).1⟩
theorem Clear.fin {l : List UInt8} {a b : Nat} (h : Clear l a b) (hb : l.drop b = []) : cutW (l.drop a) = none := by
  unfold Clear at h
  rw [h, hb]; rfl
/-- What was cut so far, and what is left to cut. -/
def Cut (l : List UInt8) (done : List (List UInt8)) (a : Nat) : Prop := done.length ≤ 6 ∧ cutsL 6 l = done ++ cutsL (6 - done.length) (l.drop a)
theorem Cut.nil (l : List UInt8) : Cut l [] 0 := ⟨Nat.zero_le _, rfl⟩
theorem Cut.next {l : List UInt8} {done : List (List UInt8)} {a b : Nat} (h : Cut l done a) (h6 : done.length ≠ 6) (hc : cutW (l.drop a) = some (seg l a b, l.drop (b + 1))) : Cut l (done ++ [seg l a b]) (b + 1) := by
  obtain ⟨h1, h2⟩ := h
  refine ⟨by simp; omega, ?_⟩
  obtain ⟨k, hk⟩ : ∃ k, 6 - done.length = k + 1 := ⟨5 - done.length, by omega⟩
  rw [h2, hk, cutsL_some hc, List.length_append, List.length_singleton, show 6 - (done.length + 1) = k by omega]
  simp
theorem Cut.fin {l : List UInt8} {done : List (List UInt8)} {a : Nat} (h : Cut l done a) (hf : done.length = 6 ∨ cutW (l.drop a) = none) : cutsL 6 l = done ++ [l.drop a] := by
  rcases hf with h6 | hn
  · rw [h.2, h6]; rfl
  · rw [h.2, cutsL_none hn]
end Go.Proofs.YtfoabgjcndgflaaDoor
