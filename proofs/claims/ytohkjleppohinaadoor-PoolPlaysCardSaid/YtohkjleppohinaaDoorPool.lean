/-
  The document's pool, plainly: what waits, in order.
-/
import Derived.Test.YtohkjleppohinaaDoorVal
set_option linter.unusedSimpArgs false
set_option linter.unusedVariables false
namespace Go.Proofs.YtohkjleppohinaaDoor

/-- Is it one of some? -/
def hasX (L : List Txx) (t : Txx) : Bool := L.any fun y => decide (t = y)
/-- Of one From and Nonce? -/
def sameT (a b : Txx) : Bool := decide (a.frm = b.frm) && decide (a.nonce = b.nonce)
/-- Why a transaction can't wait; 0: it can. -/
def addE (most : Int) (L : List Txx) (t : Txx) : Int := if right t = false then 80 else if hasX L t = true then 100 else if most ≤ (L.length : Int) then 101 else 0
def addL (most : Int) (L : List Txx) (t : Txx) : List Txx := if addE most L t = 0 then L ++ [t] else L
/-- One step of a batch. -/
def takesX (n : Int) (W out : List Txx) (t : Txx) : List Txx := if (out.length : Int) < n ∧ hasX W t = false ∧ (out.any fun x => sameT x t) = false then out ++ [t] else out
def batA (n : Int) (W acc L : List Txx) : List Txx := L.foldl (takesX n W) acc
def batchL (n : Int) (W L : List Txx) : List Txx := batA n W [] L
def dropL (W L : List Txx) : List Txx := L.filter fun t => !hasX W t
/-- Does it wait on when all of who's up to k are past? -/
def stays (who : List UInt8) (k : Int) (t : Txx) : Bool := decide (t.frm ≠ who) || decide (k < t.nonce)
def pastL (who : List UInt8) (k : Int) (L : List Txx) : List Txx := L.filter (stays who k)

theorem hasX_iff {L : List Txx} {t : Txx} : hasX L t = true ↔ t ∈ L := by
  unfold hasX
  simp
theorem hasX_not {L : List Txx} {t : Txx} : hasX L t = false ↔ t ∉ L := by
  rw [← Bool.not_eq_true, hasX_iff]
theorem sameT_self (t : Txx) : sameT t t = true := by simp [sameT]
theorem addE_ok {most : Int} {L : List Txx} {t : Txx} (h : addE most L t = 0) : right t = true ∧ hasX L t = false ∧ (L.length : Int) < most := by
  unfold addE at h
  split at h
  · omega
  split at h
  · omega
  split at h
  · omega
  · exact ⟨by simp_all, by simp_all, by omega⟩
/-- What waits is right, and of at most so many. -/
def Fine (most : Int) (L : List Txx) : Prop := (∀ t ∈ L, right t = true) ∧ (L.length : Int) ≤ most ∧ most ≤ 64
theorem Fine.nil {most : Int} (h1 : 1 ≤ most) (h2 : most ≤ 64) : Fine most [] := ⟨fun t h => (by cases h), (by simp only [List.length_nil]; omega), h2⟩
theorem Fine.add {most : Int} {L : List Txx} (h : Fine most L) (t : Txx) : Fine most (addL most L t) := by
  unfold addL
  split
  · rename_i he
    obtain ⟨h1, _, h3⟩ := addE_ok he
    refine ⟨fun x hx => ?_, ?_, h.2.2⟩
    · rw [List.mem_append, List.mem_singleton] at hx
      rcases hx with hx | rfl
      · exact h.1 x hx
      · exact h1
    · rw [List.length_append, List.length_singleton]; omega
  · exact h
theorem Fine.filter {most : Int} {L : List Txx} (h : Fine most L) (p : Txx → Bool) : Fine most (L.filter p) :=
  ⟨fun t ht => h.1 t (List.mem_filter.1 ht).1, by have := List.length_filter_le p L; have := h.2.1; omega, h.2.2⟩
theorem Fine.wf {most : Int} {L : List Txx} (h : Fine most L) : ∀ t ∈ L, t.wf 1000 := fun t ht => (right_wf (h.1 t ht)).le (by omega)
theorem Fine.len {most : Int} {L : List Txx} (h : Fine most L) : L.length ≤ 64 := by have := h.2; omega

theorem batA_cons (n : Int) (W acc : List Txx) (t : Txx) (L : List Txx) : batA n W acc (t :: L) = batA n W (takesX n W acc t) L := rfl
theorem takes_pre (n : Int) (W acc : List Txx) (t : Txx) : acc <+: takesX n W acc t := by
  unfold takesX
  split
  · exact List.prefix_append _ _
  · exact List.prefix_rfl
theorem batA_pre (n : Int) (W : List Txx) : ∀ (L acc : List Txx), acc <+: batA n W acc L
  | [], acc => List.prefix_rfl
  | t :: L, acc => (takes_pre n W acc t).trans (batA_pre n W L _)
theorem takes_mem {n : Int} {W acc : List Txx} {t x : Txx} (h : x ∈ takesX n W acc t) : x ∈ acc ∨ (x = t ∧ hasX W x = false) := by
  unfold takesX at h
  split at h
  · rename_i hc
    rw [List.mem_append, List.mem_singleton] at h
    rcases h with h | rfl
    · exact .inl h
    · exact .inr ⟨rfl, hc.2.1⟩
  · exact .inl h
theorem batA_mem {n : Int} {W : List Txx} {x : Txx} : ∀ {L acc : List Txx}, x ∈ batA n W acc L → x ∈ acc ∨ (x ∈ L ∧ hasX W x = false)
  | [], acc, h => .inl h
  | t :: L, acc, h => by
    rcases batA_mem (L := L) h with h | ⟨h1, h2⟩
    · rcases takes_mem h with h | ⟨h1, h2⟩
      · exact .inl h
      · exact .inr ⟨by rw [h1]; exact List.mem_cons_self .., h2⟩
    · exact .inr ⟨List.mem_cons_of_mem _ h1, h2⟩
theorem takes_len {n : Int} {W acc : List Txx} {t : Txx} (h : (acc.length : Int) ≤ max n 0) : ((takesX n W acc t).length : Int) ≤ max n 0 := by
  unfold takesX
  split
  · rename_i hc
    rw [List.length_append, List.length_singleton]
    have := hc.1
    omega
  · exact h
theorem batA_len {n : Int} {W : List Txx} : ∀ {L acc : List Txx}, (acc.length : Int) ≤ max n 0 → ((batA n W acc L).length : Int) ≤ max n 0
  | [], acc, h => h
  | t :: L, acc, h => batA_len (L := L) (takes_len h)
theorem takes_pair {n : Int} {W acc : List Txx} {t : Txx} (h : acc.Pairwise fun a b => sameT a b = false) : (takesX n W acc t).Pairwise fun a b => sameT a b = false := by
  unfold takesX
  split
  · rename_i hc
    refine List.pairwise_append.2 ⟨h, by simp, fun a ha b hb => ?_⟩
    rw [List.mem_singleton] at hb
    subst hb
    have := hc.2.2
    rw [List.any_eq_false] at this
    simpa using this a ha
  · exact h
theorem batA_pair {n : Int} {W : List Txx} : ∀ {L acc : List Txx}, (acc.Pairwise fun a b => sameT a b = false) → (batA n W acc L).Pairwise fun a b => sameT a b = false
  | [], acc, h => h
  | t :: L, acc, h => batA_pair (L := L) (takes_pair h)
theorem any_pre {acc L : List Txx} {p : Txx → Bool} (h : acc <+: L) (ha : acc.any p = true) : L.any p = true := by
  obtain ⟨r, rfl⟩ := h
  rw [List.any_append, ha]; rfl
theorem takes_out {n : Int} {W acc : List Txx} {t : Txx} (hn : ((takesX n W acc t).length : Int) < n) : hasX W t = true ∨ ((takesX n W acc t).any fun x => sameT x t) = true := by
  by_cases hc : (acc.length : Int) < n ∧ hasX W t = false ∧ (acc.any fun x => sameT x t) = false
  · right
    unfold takesX
    rw [if_pos hc, List.any_append]
    simp [sameT_self]
  · have e : takesX n W acc t = acc := by unfold takesX; rw [if_neg hc]
    rw [e] at hn ⊢
    by_cases h1 : hasX W t = true
    · exact .inl h1
    · right
      rw [Bool.not_eq_true] at h1
      by_cases h2 : (acc.any fun x => sameT x t) = true
      · exact h2
      · rw [Bool.not_eq_true] at h2
        exact absurd ⟨hn, h1, h2⟩ hc
/-- What is not taken, though there is room, is left out, or of a turn that is there. -/
theorem batA_out {n : Int} {W : List Txx} {x : Txx} : ∀ {L acc : List Txx}, ((batA n W acc L).length : Int) < n → x ∈ L → hasX W x = true ∨ ((batA n W acc L).any fun y => sameT y x) = true
  | [], acc, _, h => by cases h
  | t :: L, acc, hn, h => by
    rw [batA_cons] at hn ⊢
    rw [List.mem_cons] at h
    rcases h with rfl | h
    · have hp := batA_pre n W L (takesX n W acc x)
      rcases takes_out (n := n) (W := W) (acc := acc) (t := x) (by have := hp.length_le; omega) with h | h
      · exact .inl h
      · exact .inr (any_pre hp h)
    · exact batA_out hn h
theorem batch_snoc {n : Int} {W L : List Txx} {k : Nat} (h : k < L.length) : batchL n W (L.take (k + 1)) = takesX n W (batchL n W (L.take k)) L[k] := by
  unfold batchL batA
  rw [List.take_succ_eq_append_getElem h, List.foldl_append]
  rfl
theorem batA_full {n : Int} {W : List Txx} : ∀ (L : List Txx) {acc : List Txx}, n ≤ (acc.length : Int) → batA n W acc L = acc
  | [], acc, _ => rfl
  | t :: L, acc, h => by
    rw [batA_cons, show takesX n W acc t = acc from by unfold takesX; rw [if_neg (fun hc => by have := hc.1; omega)]]
    exact batA_full L h
theorem batch_full {n : Int} {W L : List Txx} {k : Nat} (h : n ≤ ((batchL n W (L.take k)).length : Int)) : batchL n W L = batchL n W (L.take k) := by
  have : batchL n W L = batA n W (batchL n W (L.take k)) (L.drop k) := by
    unfold batchL batA
    rw [← List.foldl_append, List.take_append_drop]
  rw [this, batA_full _ h]
theorem batch_sub {n : Int} {W L : List Txx} {x : Txx} (h : x ∈ batchL n W L) : x ∈ L ∧ hasX W x = false := by
  rcases batA_mem h with h | h
  · cases h
  · exact h
theorem takes_le {n : Int} {W acc : List Txx} {t : Txx} : (takesX n W acc t).length ≤ acc.length + 1 := by
  unfold takesX
  split
  · simp
  · omega
theorem batA_le {n : Int} {W : List Txx} : ∀ {L acc : List Txx}, (batA n W acc L).length ≤ acc.length + L.length
  | [], acc => by simp [batA]
  | t :: L, acc => by
    have h1 := batA_le (n := n) (W := W) (L := L) (acc := takesX n W acc t)
    have h2 := takes_le (n := n) (W := W) (acc := acc) (t := t)
    rw [batA_cons, List.length_cons]
    omega
theorem batch_le (n : Int) (W L : List Txx) : (batchL n W L).length ≤ L.length := by have := batA_le (n := n) (W := W) (L := L) (acc := []); unfold batchL; simpa using this
/-- A step, by what it asks. -/
theorem takes_full {n : Int} {W acc : List Txx} {t : Txx} (h : ¬ (acc.length : Int) < n) : takesX n W acc t = acc := by unfold takesX; rw [if_neg (fun hc => h hc.1)]
theorem takes_not {n : Int} {W acc : List Txx} {t : Txx} (h : hasX W t = true ∨ (acc.any fun x => sameT x t) = true) : takesX n W acc t = acc := by
  unfold takesX
  rw [if_neg (fun hc => by rcases h with h | h <;> simp_all)]
theorem takes_yes {n : Int} {W acc : List Txx} {t : Txx} (h0 : (acc.length : Int) < n) (h1 : hasX W t = false) (h2 : (acc.any fun x => sameT x t) = false) : takesX n W acc t = acc ++ [t] := by unfold takesX; rw [if_pos ⟨h0, h1, h2⟩]
end Go.Proofs.YtohkjleppohinaaDoor
