/-
  Contents with numbers, plainly: a list, and a map that tells the number of each.
-/
import Derived.Test.YtiakbcmolgpnlaaFoot
set_option linter.unusedSimpArgs false
set_option linter.unusedVariables false
namespace Go.Proofs.Ytiakbcmolgpnlaa
open Go.RowKit

/-- The number of s in a list whose first item has number k + 1; 0: it is not there. -/
def idxFrom : Nat → List ByteArray → ByteArray → Nat
  | _, [], _ => 0
  | k, x :: l, s => if x = s then k + 1 else idxFrom (k + 1) l s
def idx (L : List ByteArray) (s : ByteArray) : Nat := idxFrom 0 L s
theorem idxFrom_le : ∀ (L : List ByteArray) (k : Nat) (s : ByteArray), idxFrom k L s ≤ k + L.length
  | [], k, s => by simp [idxFrom]
  | x :: l, k, s => by
    unfold idxFrom
    split
    · simp
    · have := idxFrom_le l (k + 1) s
      simp; omega
theorem idx_le (L : List ByteArray) (s : ByteArray) : idx L s ≤ L.length := by have := idxFrom_le L 0 s; unfold idx; omega
theorem idxFrom_snoc : ∀ (L : List ByteArray) (k : Nat) (t s : ByteArray), idxFrom k (L ++ [t]) s = if idxFrom k L s = 0 then (if t = s then k + L.length + 1 else 0) else idxFrom k L s
  | [], k, t, s => by simp [idxFrom]
  | x :: l, k, t, s => by
    show (if x = s then k + 1 else idxFrom (k + 1) (l ++ [t]) s) = if (if x = s then k + 1 else idxFrom (k + 1) l s) = 0 then _ else (if x = s then k + 1 else idxFrom (k + 1) l s)
    by_cases h : x = s
    · simp [h]
    · rw [if_neg h, if_neg h, idxFrom_snoc l (k + 1) t s]
      simp only [List.length_cons]
      rw [show k + 1 + l.length + 1 = k + (l.length + 1) + 1 by omega]
theorem idx_snoc (L : List ByteArray) (t s : ByteArray) : idx (L ++ [t]) s = if idx L s = 0 then (if t = s then L.length + 1 else 0) else idx L s := by
  unfold idx
  rw [idxFrom_snoc L 0 t s, Nat.zero_add]
theorem idxFrom_drop {L : List ByteArray} {k j : Nat} {s : ByteArray} (hk : k < L.length) : idxFrom j (L.drop k) s = if L[k] = s then j + 1 else idxFrom (j + 1) (L.drop (k + 1)) s := by
  rw [List.drop_eq_getElem_cons hk]; rfl
/-- A number is that of the item at its place. -/
theorem idxFrom_at : ∀ (L : List ByteArray) (k n : Nat) (s : ByteArray), idxFrom k L s = k + n + 1 → L[n]? = some s
  | [], k, n, s, h => by simp [idxFrom] at h
  | x :: l, k, n, s, h => by
    unfold idxFrom at h
    split at h
    · rename_i e
      have : n = 0 := by omega
      subst this
      simp [e]
    · cases n with
      | zero =>
        exfalso
        have h0 := h
        have : ∀ (l : List ByteArray) (j : Nat), idxFrom j l s = 0 ∨ j < idxFrom j l s := by
          intro l
          induction l with
          | nil => intro j; exact .inl rfl
          | cons y l ih =>
            intro j
            unfold idxFrom
            split
            · right; omega
            · rcases ih (j + 1) with h | h
              · exact .inl h
              · right; omega
        rcases this l (k + 1) with h' | h' <;> omega
      | succ n =>
        have := idxFrom_at l (k + 1) n s (by omega)
        simpa using this
theorem idx_at {L : List ByteArray} {n : Nat} {s : ByteArray} (h : idx L s = n + 1) : L[n]? = some s := idxFrom_at L 0 n s (by unfold idx at h; omega)
/-- An item has a number. -/
theorem idxFrom_mem : ∀ (L : List ByteArray) (k : Nat) (s : ByteArray), s ∈ L → idxFrom k L s ≠ 0
  | x :: l, k, s, h => by
    unfold idxFrom
    split
    · omega
    · rename_i e
      rcases List.mem_cons.1 h with h | h
      · exact absurd h.symm e
      · exact idxFrom_mem l (k + 1) s h
theorem idx_mem {L : List ByteArray} {s : ByteArray} (h : s ∈ L) : idx L s ≠ 0 := idxFrom_mem L 0 s h

/-- What Enter leaves. -/
def enterL (L : List ByteArray) (s : ByteArray) : List ByteArray := if 65536 < s.size then L else if idx L s = 0 then L ++ [s] else L
/-- .. and tells. -/
def enterN (L : List ByteArray) (s : ByteArray) : Nat := if 65536 < s.size then 0 else if idx L s = 0 then L.length + 1 else idx L s
def enterE (s : ByteArray) : Nat := if 65536 < s.size then 2 else 0
theorem enterL_len (L : List ByteArray) (s : ByteArray) : L.length ≤ (enterL L s).length ∧ (enterL L s).length ≤ L.length + 1 := by
  unfold enterL
  split
  · omega
  · split
    · simp
    · omega

theorem bytes_inj {s t : ByteArray} (h : s.data.toList = t.data.toList) : s = t := by
  obtain ⟨⟨a⟩⟩ := s
  obtain ⟨⟨b⟩⟩ := t
  simp at h
  rw [h]

/-- A text as a map's key. -/
def keyL (s : ByteArray) : Lit := .string s.data.toList
def numD (n : Nat) : DataW Unit := .lit (.int .i64 (n : Int))
theorem keyL_ne {s t : ByteArray} (h : s ≠ t) : keyL s ≠ keyL t := fun e => h (bytes_inj (by unfold keyL at e; injection e))
/-- The map tells each one's number. -/
def Fits (D : DataW Unit) (L : List ByteArray) : Prop := ∀ s, Maps.has D (keyL s) = decide (0 < idx L s) ∧ D.atKey (keyL s) (numD 0) = numD (idx L s)
theorem Fits.nil : Fits (.map []) [] := fun s => ⟨rfl, rfl⟩
theorem Fits.put {D : DataW Unit} {L : List ByteArray} {s : ByteArray} (h : Fits D L) (hm : Maps.IsMap D) (hs : idx L s = 0) : Fits (D.put (keyL s) (numD (L.length + 1))) (L ++ [s]) := by
  intro t
  rw [idx_snoc]
  by_cases e : s = t
  · subst e
    rw [if_pos hs, if_pos rfl]
    exact ⟨by rw [Maps.has_put_same hm (by simp [keyL, WideAt.IsKeyLit])]; simp, Maps.atKey_put_same hm (by simp [keyL, WideAt.IsKeyLit]) _ _⟩
  · have hne : keyL t ≠ keyL s := fun h' => keyL_ne e h'.symm
    have h' := h t
    rw [Maps.has_put_other hne, Maps.atKey_put_other hne]
    by_cases h0 : idx L t = 0
    · rw [if_pos h0, if_neg e]; rw [h0] at h'; exact h'
    · rw [if_neg h0]; exact h'
end Go.Proofs.Ytiakbcmolgpnlaa
