/-
  A write, byte by byte, plainly. No program in this text.
-/
import Derived.Test.YthhjdielananeaaTp
set_option linter.unusedSimpArgs false
set_option linter.unusedVariables false
namespace Go.Proofs.Ythhjdielananeaa

/-- Behind k bytes of a write that could be written. -/
def aftT (t : Tp) (l : List UInt8) (k : Nat) : Tp := { t.burn k with held := t.held ++ l.take k }
theorem burn_0 (t : Tp) : t.burn 0 = t := by
  unfold Tp.burn
  split
  · rfl
  · next k h =>
    rw [if_pos (Nat.zero_le _), Nat.sub_zero, ← h]
theorem aft_zero (t : Tp) (l : List UInt8) : aftT t l 0 = t := by
  unfold aftT
  rw [burn_0]
  simp
theorem aft_on {t : Tp} {l : List UInt8} {k : Nat} (ho : t.on = true) (h : k ≤ t.can l.length) : (aftT t l k).on = true := by
  show (t.burn k).on = true
  unfold Tp.can at h
  unfold Tp.burn
  split
  · exact ho
  · next j hj =>
    rw [hj] at h
    dsimp only at h
    rw [if_pos (by omega)]
    exact ho
theorem aft_fuse {t : Tp} {l : List UInt8} {k : Nat} (h : k ≤ t.can l.length) : (aftT t l k).fuse = t.fuse.map (fun j => j - k) := by
  show (t.burn k).fuse = _
  unfold Tp.can at h
  unfold Tp.burn
  split
  · next hj => rw [hj]; rfl
  · next j hj =>
    rw [hj] at h ⊢
    dsimp only at h
    rw [if_pos (by omega)]
    rfl
theorem aft_can {t : Tp} {l : List UInt8} {k : Nat} (h : k ≤ t.can l.length) (hk : k < l.length) : (aftT t l k).can 1 = 0 ↔ k = t.can l.length := by
  unfold Tp.can at h ⊢
  rw [aft_fuse (by unfold Tp.can; exact h)]
  cases hf : t.fuse with
  | none =>
    show 1 = 0 ↔ k = l.length
    omega
  | some j =>
    rw [hf] at h
    dsimp only at h
    show min 1 (j - k) = 0 ↔ k = min l.length j
    omega
theorem burn_more {t : Tp} {k : Nat} (h : ∀ j, t.fuse = some j → k + 1 ≤ j) : (t.burn k).burn 1 = t.burn (k + 1) := by
  cases hf : t.fuse with
  | none =>
    have e : ∀ n, t.burn n = t := fun n => by unfold Tp.burn; rw [hf]
    rw [e, e, e]
  | some j =>
    have := h j hf
    have e1 : t.burn k = { t with fuse := some (j - k) } := by unfold Tp.burn; rw [hf]; dsimp only; rw [if_pos (by omega)]
    have e2 : t.burn (k + 1) = { t with fuse := some (j - (k + 1)) } := by unfold Tp.burn; rw [hf]; dsimp only; rw [if_pos (by omega)]
    rw [e1, e2]
    unfold Tp.burn
    dsimp only
    rw [if_pos (by omega)]
    congr 2
theorem held_burn (x : Tp) (m : List UInt8) (n : Nat) : ({ x with held := m } : Tp).burn n = { x.burn n with held := m } := by
  unfold Tp.burn
  dsimp only
  split
  · rfl
  · split <;> rfl
theorem aft_next {t : Tp} {l : List UInt8} {k : Nat} (h : k < t.can l.length) (hk : k < l.length) : ({ (aftT t l k).burn 1 with held := ((aftT t l k).burn 1).held ++ [l[k]] } : Tp) = aftT t l (k + 1) := by
  have hb : (t.burn k).burn 1 = t.burn (k + 1) := burn_more fun j hj => by
    unfold Tp.can at h
    rw [hj] at h
    dsimp only at h
    omega
  unfold aftT
  rw [held_burn, hb, List.take_succ_eq_append_getElem hk, List.append_assoc]
theorem aft_stop {t : Tp} {l : List UInt8} {k : Nat} (ho : t.on = true) (hr : t.held.length + l.length ≤ t.room) (h : k = t.can l.length) (hk : k < l.length) : (aftT t l k).burn 1 = writeT t l ∧ writeE t l = 170 := by
  have hf : t.fuse = some k := by
    unfold Tp.can at h
    cases hf : t.fuse with
    | none => rw [hf] at h; dsimp only at h; omega
    | some j => rw [hf] at h; dsimp only at h; congr 1; omega
  have h0 : ¬ t.on = false := by rw [ho]; decide
  refine ⟨?_, ?_⟩
  · unfold writeT
    rw [if_neg h0, if_neg (by omega), ← h]
    unfold aftT
    rw [held_burn]
    have e : (t.burn k).burn 1 = t.burn l.length := by
      unfold Tp.burn
      rw [hf]
      dsimp only
      rw [if_pos (Nat.le_refl _), if_neg (by omega)]
      dsimp only
      rw [if_neg (by omega)]
    rw [e]
  · unfold writeE
    rw [if_neg h0, if_neg (by omega), if_pos (by omega)]
theorem aft_end {t : Tp} {l : List UInt8} (ho : t.on = true) (hr : t.held.length + l.length ≤ t.room) (h : l.length ≤ t.can l.length) : aftT t l l.length = writeT t l ∧ writeE t l = 0 := by
  have h0 : ¬ t.on = false := by rw [ho]; decide
  have hc : t.can l.length = l.length := Nat.le_antisymm (can_le _ _) h
  refine ⟨?_, ?_⟩
  · unfold writeT
    rw [if_neg h0, if_neg (by omega), hc]
    rfl
  · unfold writeE
    rw [if_neg h0, if_neg (by omega), if_neg (by omega)]
theorem aft_same (t : Tp) (l : List UInt8) (k : Nat) : (aftT t l k).first = t.first ∧ (aftT t l k).fast = t.fast ∧ (aftT t l k).room = t.room := by
  obtain ⟨e1, e2, e3, e4⟩ := burn_same t k
  exact ⟨e1, e2, e4⟩
theorem aft_len (t : Tp) (l : List UInt8) {k : Nat} (h : k ≤ l.length) : (aftT t l k).held.length = t.held.length + k := by
  show (t.held ++ l.take k).length = _
  rw [List.length_append, List.length_take]
  omega
end Go.Proofs.Ythhjdielananeaa
