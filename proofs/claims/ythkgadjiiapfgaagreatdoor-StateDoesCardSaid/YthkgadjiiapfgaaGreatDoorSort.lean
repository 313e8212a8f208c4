/-
  Lists by an order of their keys, plainly: one list alone is rising; taking the least away, again and again, makes it. No program in this text.
-/
import Derived.Lib.Strings
set_option linter.unusedSimpArgs false
set_option linter.unusedVariables false
namespace Go.Proofs.YthkgadjiiapfgaaGreatDoor

/-- A strict order of all keys. -/
structure Ordered {κ : Type} (lt : κ → κ → Bool) : Prop where
  irr : ∀ a, lt a a = false
  flip : ∀ {a b}, a ≠ b → lt a b = !lt b a
  trans : ∀ {a b c}, lt a b = true → lt b c = true → lt a c = true
section
variable {κ α : Type} {lt : κ → κ → Bool} {f : α → κ}
theorem Ordered.ne (h : Ordered lt) {a b : κ} (hab : lt a b = true) : a ≠ b := fun e => by rw [e, h.irr] at hab; cases hab
theorem Ordered.not_back (h : Ordered lt) {a b : κ} (hab : lt a b = true) : lt b a = false := by
  have := h.flip (h.ne hab)
  rw [hab] at this
  cases hb : lt b a
  · rfl
  · rw [hb] at this; cases this
theorem Ordered.of_not (h : Ordered lt) {a b : κ} (hne : a ≠ b) (hn : lt b a = false) : lt a b = true := by rw [h.flip hne, hn]; rfl
/-- Rising by its keys. -/
def Rising (lt : κ → κ → Bool) (f : α → κ) (L : List α) : Prop := L.Pairwise fun x y => lt (f x) (f y) = true
/-- No two of one key. -/
def Apart (f : α → κ) (L : List α) : Prop := L.Pairwise fun x y => f x ≠ f y
theorem Rising.apart (h : Ordered lt) {L : List α} (hr : Rising lt f L) : Apart f L := hr.imp fun h1 => h.ne h1
theorem Apart.one {L : List α} (h : Apart f L) {x y : α} (hx : x ∈ L) (hy : y ∈ L) (he : f x = f y) : x = y := by
  induction L with
  | nil => cases hx
  | cons a L ih =>
    have hc := List.pairwise_cons.1 h
    rcases List.mem_cons.1 hx with h1 | h1 <;> rcases List.mem_cons.1 hy with h2 | h2
    · rw [h1, h2]
    · rw [h1] at he; exact absurd he (hc.1 y h2)
    · rw [h2] at he; exact absurd he.symm (hc.1 x h1)
    · exact ih hc.2 h1 h2
/-- Two rising lists of the same are one. -/
theorem rising_one (h : Ordered lt) : ∀ {L M : List α}, Rising lt f L → Rising lt f M → (∀ x, x ∈ L ↔ x ∈ M) → L = M
  | [], [], _, _, _ => rfl
  | [], b :: M, _, _, hm => absurd ((hm b).2 (List.mem_cons_self ..)) (by simp)
  | a :: L, [], _, _, hm => absurd ((hm a).1 (List.mem_cons_self ..)) (by simp)
  | a :: L, b :: M, hl, hr, hm => by
    have cl := List.pairwise_cons.1 hl
    have cr := List.pairwise_cons.1 hr
    have hab : a = b := by
      rcases List.mem_cons.1 ((hm a).1 (List.mem_cons_self ..)) with e | e
      · exact e
      · rcases List.mem_cons.1 ((hm b).2 (List.mem_cons_self ..)) with e' | e'
        · exact e'.symm
        · have h1 := cr.1 a e
          have h2 := cl.1 b e'
          rw [h.not_back h1] at h2
          cases h2
    subst hab
    have : L = M := rising_one h cl.2 cr.2 fun x => by
      have hx := hm x
      simp only [List.mem_cons] at hx
      constructor
      · intro hxl
        rcases hx.1 (.inr hxl) with e | e
        · subst e; exact absurd (cl.1 x hxl) (by rw [h.irr]; simp)
        · exact e
      · intro hxm
        rcases hx.2 (.inr hxm) with e | e
        · subst e; exact absurd (cr.1 x hxm) (by rw [h.irr]; simp)
        · exact e
    rw [this]
/-- One more, at its place. -/
def ins (lt : κ → κ → Bool) (f : α → κ) (x : α) : List α → List α
  | [] => [x]
  | y :: L => if lt (f x) (f y) = true then x :: y :: L else y :: ins lt f x L
/-- In order. -/
def isort (lt : κ → κ → Bool) (f : α → κ) (L : List α) : List α := L.foldr (ins lt f) []
theorem ins_mem (x z : α) : ∀ L : List α, z ∈ ins lt f x L ↔ z = x ∨ z ∈ L
  | [] => by simp [ins]
  | y :: L => by
    unfold ins
    split
    · simp
    · simp only [List.mem_cons, ins_mem x z L]
      constructor
      · rintro (h | h | h) <;> simp [h]
      · rintro (h | h | h) <;> simp [h]
theorem isort_mem (z : α) : ∀ L : List α, z ∈ isort lt f L ↔ z ∈ L
  | [] => by simp [isort]
  | y :: L => by
    have := isort_mem z L
    unfold isort at this ⊢
    rw [List.foldr_cons, ins_mem, this, List.mem_cons]
theorem ins_rising (h : Ordered lt) (x : α) : ∀ {L : List α}, Rising lt f L → (∀ y ∈ L, f x ≠ f y) → Rising lt f (ins lt f x L)
  | [], _, _ => by unfold ins Rising; simp
  | y :: L, hr, hne => by
    have hc := List.pairwise_cons.1 hr
    unfold ins
    split
    · next hxy =>
      refine List.pairwise_cons.2 ⟨fun z hz => ?_, hr⟩
      rcases List.mem_cons.1 hz with e | e
      · rw [e]; exact hxy
      · exact h.trans hxy (hc.1 z e)
    · next hxy =>
      have hyx : lt (f y) (f x) = true := h.of_not (Ne.symm (hne y (List.mem_cons_self ..))) (by simpa using hxy)
      refine List.pairwise_cons.2 ⟨fun z hz => ?_, ins_rising h x hc.2 fun z hz => hne z (List.mem_cons_of_mem _ hz)⟩
      rcases (ins_mem x z L).1 hz with e | e
      · rw [e]; exact hyx
      · exact hc.1 z e
theorem isort_rising (h : Ordered lt) : ∀ {L : List α}, Apart f L → Rising lt f (isort lt f L)
  | [], _ => List.Pairwise.nil
  | y :: L, ha => by
    have hc := List.pairwise_cons.1 ha
    have ih := isort_rising h hc.2
    show Rising lt f (ins lt f y (isort lt f L))
    exact ins_rising h y ih fun z hz => hc.1 z ((isort_mem z L).1 hz)
/-- The order hangs on who is there alone. -/
theorem isort_same (h : Ordered lt) {L M : List α} (hl : Apart f L) (hm : Apart f M) (he : ∀ x, x ∈ L ↔ x ∈ M) : isort lt f L = isort lt f M :=
  rising_one h (isort_rising h hl) (isort_rising h hm) fun x => by rw [isort_mem, isort_mem, he]
theorem isort_of (h : Ordered lt) {L : List α} (hr : Rising lt f L) : isort lt f L = L :=
  rising_one h (isort_rising h (hr.apart h)) hr fun x => isort_mem x L
theorem Apart.filter {L : List α} (h : Apart f L) (p : α → Bool) : Apart f (L.filter p) := List.Pairwise.sublist List.filter_sublist h
theorem isort_filter (h : Ordered lt) {L : List α} (ha : Apart f L) (p : α → Bool) : (isort lt f L).filter p = isort lt f (L.filter p) :=
  rising_one h (List.Pairwise.sublist List.filter_sublist (isort_rising h ha)) (isort_rising h (ha.filter p)) fun x => by
    rw [List.mem_filter, isort_mem, isort_mem, List.mem_filter]

/-! Taking the least away, again and again. -/
/-- Which of the first j + 1 is the least: the first such one. -/
def leastTo [Inhabited α] (lt : κ → κ → Bool) (f : α → κ) (L : List α) : Nat → Nat
  | 0 => 0
  | j + 1 => if lt (f (L.getD (j + 1) default)) (f (L.getD (leastTo lt f L j) default)) = true then j + 1 else leastTo lt f L j
theorem leastTo_le [Inhabited α] (L : List α) : ∀ j, leastTo lt f L j ≤ j
  | 0 => Nat.le_refl _
  | j + 1 => by
    unfold leastTo
    split
    · exact Nat.le_refl _
    · have : leastTo lt f L j ≤ j := leastTo_le L j
      omega
theorem leastTo_is [Inhabited α] (h : Ordered lt) (L : List α) (ha : Apart f L) : ∀ j, j < L.length → ∀ i, i ≤ j → i ≠ leastTo lt f L j → lt (f (L.getD (leastTo lt f L j) default)) (f (L.getD i default)) = true
  | 0, _, i, hi, hne => absurd (show i = 0 by omega) hne
  | j + 1, hj, i, hi, hne => by
    have ih := leastTo_is h L ha j (by omega)
    have hle := leastTo_le (lt := lt) (f := f) L j
    have hap : ∀ a b, a < L.length → b < L.length → a ≠ b → f (L.getD a default) ≠ f (L.getD b default) := fun a b hA hB hab => by
      have hg : ∀ c (hc : c < L.length), L.getD c default = L[c] := fun c hc => by rw [List.getD_eq_getElem?_getD, List.getElem?_eq_getElem hc]; rfl
      rw [hg a hA, hg b hB]
      rcases Nat.lt_or_ge a b with hlt | hge
      · exact (List.pairwise_iff_getElem.1 ha) a b hA hB hlt
      · exact Ne.symm ((List.pairwise_iff_getElem.1 ha) b a hB hA (by omega))
    unfold leastTo at hne ⊢
    split
    · next hlt =>
      rw [if_pos hlt] at hne
      by_cases hik : i = leastTo lt f L j
      · rw [hik]; exact hlt
      · exact h.trans hlt (ih i (by omega) hik)
    · next hlt =>
      rw [if_neg hlt] at hne
      by_cases hij : i = j + 1
      · rw [hij]
        exact h.of_not (hap _ _ (by omega) hj (by omega)) (by simpa using hlt)
      · exact ih i (by omega) hne
/-- The least, and so on with what is left. -/
def sel [Inhabited α] (lt : κ → κ → Bool) (f : α → κ) : Nat → List α → List α
  | 0, _ => []
  | n + 1, L => if L.length = 0 then [] else L.getD (leastTo lt f L (L.length - 1)) default :: sel lt f n (L.eraseIdx (leastTo lt f L (L.length - 1)))
theorem sel_facts [Inhabited α] (h : Ordered lt) : ∀ (n : Nat) (L : List α), L.length ≤ n → Apart f L → Rising lt f (sel lt f n L) ∧ ∀ x, x ∈ sel lt f n L ↔ x ∈ L
  | 0, L, hn, _ => by
    have : L = [] := List.eq_nil_of_length_eq_zero (by omega)
    subst this
    exact ⟨List.Pairwise.nil, fun x => by simp [sel]⟩
  | n + 1, L, hn, ha => by
    unfold sel
    by_cases h0 : L.length = 0
    · rw [if_pos h0]
      have : L = [] := List.eq_nil_of_length_eq_zero h0
      subst this
      exact ⟨List.Pairwise.nil, fun x => by simp⟩
    · rw [if_neg h0]
      obtain ⟨k, hk⟩ : ∃ k, k = leastTo lt f L (L.length - 1) := ⟨_, rfl⟩
      have hle := leastTo_le (lt := lt) (f := f) L (L.length - 1)
      have hlt : k < L.length := by omega
      have hg : L.getD k default = L[k] := by rw [List.getD_eq_getElem?_getD, List.getElem?_eq_getElem hlt]; rfl
      have hle2 := leastTo_is h L ha (L.length - 1) (by omega)
      rw [← hk] at hle2 ⊢
      have hmem : ∀ x, x ∈ L ↔ x = L[k] ∨ x ∈ L.eraseIdx k := fun x => by
        constructor
        · intro hx
          obtain ⟨i, hi, rfl⟩ := List.getElem_of_mem hx
          by_cases hik : i = k
          · subst hik; exact .inl rfl
          · refine .inr (List.mem_eraseIdx_iff_getElem.2 ⟨i, hi, hik, rfl⟩)
        · rintro (rfl | hx)
          · exact List.getElem_mem hlt
          · exact List.mem_of_mem_eraseIdx hx
      obtain ⟨r1, r2⟩ := sel_facts h n (L.eraseIdx k) (by rw [List.length_eraseIdx]; split <;> omega) (List.Pairwise.sublist (List.eraseIdx_sublist ..) ha)
      refine ⟨List.pairwise_cons.2 ⟨fun y hy => ?_, r1⟩, fun x => ?_⟩
      · obtain ⟨i, hi, hik, rfl⟩ := List.mem_eraseIdx_iff_getElem.1 ((r2 y).1 hy)
        have := hle2 i (by omega) hik
        rw [List.getD_eq_getElem?_getD (l := L) (i := i), List.getElem?_eq_getElem hi] at this
        exact this
      · rw [List.mem_cons, r2 x, hg, ← hmem x]
theorem sel_isort [Inhabited α] (h : Ordered lt) {L : List α} (ha : Apart f L) : sel lt f L.length L = isort lt f L := by
  obtain ⟨r1, r2⟩ := sel_facts h L.length L (Nat.le_refl _) ha
  exact rising_one h r1 (isort_rising h ha) fun x => by rw [r2 x, isort_mem]
end
end Go.Proofs.YthkgadjiiapfgaaGreatDoor
