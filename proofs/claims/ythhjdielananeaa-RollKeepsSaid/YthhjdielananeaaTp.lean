/-
  A strip of bytes that is written at its end and let go at its beginning, plainly: its places, its fuse, its power. No program in this text.
-/
import Derived.Lib.Strings
set_option linter.unusedSimpArgs false
set_option linter.unusedVariables false
namespace Go.Proofs.Ythhjdielananeaa

/-- A tape: First, Fast, the bytes from First to End, the room, how many strokes are left (if there is a fuse), the power. -/
structure Tp where
  first : Nat
  fast : Nat
  held : List UInt8
  room : Nat
  fuse : Option Nat
  on : Bool
def Tp.stop (t : Tp) : Nat := t.first + t.held.length
structure Tp.ok (t : Tp) : Prop where
  f1 : t.first ≤ t.fast
  f2 : t.fast ≤ t.first + t.held.length
  room : t.held.length ≤ t.room
/-- A new one. -/
def newTp (room : Nat) : Tp := ⟨0, 0, [], room, none, true⟩
/-- How many of so many strokes can be done. -/
def Tp.can (t : Tp) (n : Nat) : Nat := match t.fuse with
  | none => n
  | some k => min n k
/-- Behind so many strokes that were asked for: the fuse, the power. -/
def Tp.burn (t : Tp) (n : Nat) : Tp := match t.fuse with
  | none => t
  | some k => if n ≤ k then { t with fuse := some (k - n) } else { t with fuse := some 0, on := false }
def writeE (t : Tp) (b : List UInt8) : Int := if t.on = false then 170 else if t.room < t.held.length + b.length then 171 else if t.can b.length < b.length then 170 else 0
def writeT (t : Tp) (b : List UInt8) : Tp := if t.on = false then t else if t.room < t.held.length + b.length then t else { t.burn b.length with held := t.held ++ b.take (t.can b.length) }
/-- A call that is one stroke: what it does where it can. -/
def strokeE (t : Tp) : Int := if t.on = false then 170 else if t.can 1 = 0 then 170 else 0
def strokeT (t : Tp) (f : Tp → Tp) : Tp := if t.on = false then t else if t.can 1 = 0 then t.burn 1 else f (t.burn 1)
def holdT (t : Tp) : Tp := strokeT t fun x => { x with fast := x.stop }
def shedE (t : Tp) (p : Int) : Int := if t.on = false then 170 else if p < t.first ∨ (t.fast : Int) < p then 240 else strokeE t
def shedT (t : Tp) (p : Int) : Tp := if t.on = false then t else if p < t.first ∨ (t.fast : Int) < p then t else strokeT t fun x => { x with first := p.toNat, held := x.held.drop (p.toNat - x.first) }
def backE (t : Tp) (p : Int) : Int := if t.on = false then 170 else if p < t.first ∨ (t.stop : Int) < p then 240 else strokeE t
def backT (t : Tp) (p : Int) : Tp := if t.on = false then t else if p < t.first ∨ (t.stop : Int) < p then t else strokeT t fun x => { x with held := x.held.take (p.toNat - x.first), fast := min x.fast p.toNat }
def fuseE (n : Int) : Int := if n < 0 then 1 else 0
def fuseT (t : Tp) (n : Int) : Tp := if n < 0 then t else { t with fuse := some n.toNat }
/-- How many bytes that aren't fast stay. -/
def keepN (t : Tp) (keep : Int) : Nat := (keep % 18446744073709551616).toNat % (t.stop - t.fast + 1)
def crashT (t : Tp) (keep : Int) : Tp := { t with held := t.held.take (t.fast - t.first + keepN t keep), fast := t.fast + keepN t keep, fuse := none, on := true }

theorem new_ok_ (room : Nat) : (newTp room).ok := ⟨Nat.le_refl _, Nat.le_refl _, Nat.zero_le _⟩
theorem burn_same (t : Tp) (n : Nat) : (t.burn n).first = t.first ∧ (t.burn n).fast = t.fast ∧ (t.burn n).held = t.held ∧ (t.burn n).room = t.room := by
  unfold Tp.burn
  split
  · exact ⟨rfl, rfl, rfl, rfl⟩
  · split <;> exact ⟨rfl, rfl, rfl, rfl⟩
theorem can_le (t : Tp) (n : Nat) : t.can n ≤ n := by
  unfold Tp.can
  split
  · exact Nat.le_refl _
  · exact Nat.min_le_left _ _
theorem writeT_ok {t : Tp} (h : t.ok) (b : List UInt8) : (writeT t b).ok := by
  unfold writeT
  split
  · exact h
  · split
    · exact h
    · next h2 =>
      obtain ⟨e1, e2, e3, e4⟩ := burn_same t b.length
      have hc := can_le t b.length
      refine ⟨?_, ?_, ?_⟩
      · show (t.burn b.length).first ≤ (t.burn b.length).fast
        rw [e1, e2]; exact h.f1
      · show (t.burn b.length).fast ≤ (t.burn b.length).first + (t.held ++ b.take (t.can b.length)).length
        rw [e1, e2, List.length_append]; have := h.f2; omega
      · show (t.held ++ b.take (t.can b.length)).length ≤ (t.burn b.length).room
        rw [e4, List.length_append, List.length_take]; omega
theorem strokeT_ok {t : Tp} (h : t.ok) {f : Tp → Tp} (hf : ∀ x : Tp, x.first = t.first → x.fast = t.fast → x.held = t.held → x.room = t.room → (f x).ok) : (strokeT t f).ok := by
  obtain ⟨e1, e2, e3, e4⟩ := burn_same t 1
  unfold strokeT
  split
  · exact h
  · split
    · exact ⟨by rw [e1, e2]; exact h.f1, by rw [e1, e2, e3]; exact h.f2, by rw [e3, e4]; exact h.room⟩
    · exact hf _ e1 e2 e3 e4
theorem holdT_ok {t : Tp} (h : t.ok) : (holdT t).ok := strokeT_ok h fun x a b c d => by
  refine ⟨?_, Nat.le_refl _, by show x.held.length ≤ x.room; rw [c, d]; exact h.room⟩
  show x.first ≤ x.first + x.held.length
  omega
theorem shedT_ok {t : Tp} (h : t.ok) (p : Int) : (shedT t p).ok := by
  unfold shedT
  split
  · exact h
  · split
    · exact h
    · next hp =>
      refine strokeT_ok h fun x a b c d => ?_
      have h1 := h.f1; have h2 := h.f2; have h3 := h.room
      refine ⟨?_, ?_, ?_⟩
      · show p.toNat ≤ x.fast
        rw [b]; omega
      · show x.fast ≤ p.toNat + (x.held.drop (p.toNat - x.first)).length
        rw [List.length_drop, a, b, c]; omega
      · show (x.held.drop (p.toNat - x.first)).length ≤ x.room
        rw [List.length_drop, c, d]; omega
theorem backT_ok {t : Tp} (h : t.ok) (p : Int) : (backT t p).ok := by
  unfold backT Tp.stop
  split
  · exact h
  · split
    · exact h
    · next hp =>
      refine strokeT_ok h fun x a b c d => ?_
      have h1 := h.f1; have h2 := h.f2; have h3 := h.room
      refine ⟨?_, ?_, ?_⟩
      · show x.first ≤ min x.fast p.toNat
        rw [a, b]; omega
      · show min x.fast p.toNat ≤ x.first + (x.held.take (p.toNat - x.first)).length
        rw [List.length_take, a, b, c]; omega
      · show (x.held.take (p.toNat - x.first)).length ≤ x.room
        rw [List.length_take, c, d]; omega
theorem fuseT_ok {t : Tp} (h : t.ok) (n : Int) : (fuseT t n).ok := by
  unfold fuseT
  split
  · exact h
  · exact ⟨h.f1, h.f2, h.room⟩
theorem keepN_le (t : Tp) (keep : Int) : keepN t keep ≤ t.stop - t.fast := by
  have := Nat.mod_lt (keep % 18446744073709551616).toNat (show 0 < t.stop - t.fast + 1 by omega)
  unfold keepN
  omega
theorem crash_len {t : Tp} (h : t.ok) (keep : Int) : (crashT t keep).held.length = t.fast - t.first + keepN t keep := by
  have := keepN_le t keep
  have := h.f1; have := h.f2
  unfold Tp.stop at *
  show (t.held.take (t.fast - t.first + keepN t keep)).length = _
  rw [List.length_take]
  omega
theorem crashT_ok {t : Tp} (h : t.ok) (keep : Int) : (crashT t keep).ok := by
  have hl := crash_len h keep
  have h1 := h.f1; have h2 := h.f2; have h3 := h.room
  refine ⟨?_, ?_, ?_⟩
  · show t.first ≤ t.fast + keepN t keep
    omega
  · show t.fast + keepN t keep ≤ t.first + (crashT t keep).held.length
    rw [hl]; omega
  · have : (crashT t keep).held.length ≤ t.held.length := List.length_take_le' _ _
    exact Nat.le_trans this h3
/-- Behind a crash: the same First, Fast is End, from the old Fast to the old End; what is held is a beginning. -/
theorem crash_is {t : Tp} (h : t.ok) (keep : Int) : (crashT t keep).first = t.first ∧ (crashT t keep).fast = (crashT t keep).stop ∧ t.fast ≤ (crashT t keep).stop ∧ (crashT t keep).stop ≤ t.stop ∧ (crashT t keep).held = t.held.take (crashT t keep).held.length ∧ (crashT t keep).on = true := by
  have hl := crash_len h keep
  have hk := keepN_le t keep
  have h1 := h.f1; have h2 := h.f2
  unfold Tp.stop at *
  refine ⟨rfl, ?_, ?_, ?_, ?_, rfl⟩
  · show t.fast + keepN t keep = t.first + (crashT t keep).held.length
    rw [hl]; omega
  · show t.fast ≤ t.first + (crashT t keep).held.length
    rw [hl]; omega
  · show t.first + (crashT t keep).held.length ≤ _
    rw [hl]; omega
  · rw [hl]; rfl
/-- How far places go. -/
theorem write_stop (t : Tp) (b : List UInt8) : (writeT t b).stop ≤ t.stop + b.length := by
  unfold writeT Tp.stop
  split
  · omega
  · split
    · omega
    · obtain ⟨e1, _, _, _⟩ := burn_same t b.length
      show (t.burn b.length).first + (t.held ++ b.take (t.can b.length)).length ≤ _
      rw [e1, List.length_append, List.length_take]
      omega
/-- A write that the fuse ends: just as many bytes more as there were strokes. -/
theorem write_fused {room k : Nat} {b : List UInt8} (hr : b.length ≤ room) : writeE (fuseT (newTp room) k) b = (if b.length ≤ k then 0 else 170) ∧ (writeT (fuseT (newTp room) k) b).stop = min b.length k ∧ (writeT (fuseT (newTp room) k) b).on = decide (b.length ≤ k) ∧ (writeT (fuseT (newTp room) k) b).fast = 0 := by
  have e : fuseT (newTp room) k = ⟨0, 0, [], room, some k, true⟩ := by unfold fuseT newTp; rw [if_neg (by omega)]; rfl
  rw [e]
  have hr' : ¬ room < b.length := by omega
  by_cases hk : b.length ≤ k
  · have h1 : min b.length k = b.length := Nat.min_eq_left hk
    refine ⟨?_, ?_, ?_, ?_⟩ <;> simp [writeE, writeT, Tp.can, Tp.burn, Tp.stop, hr', hk, h1]
  · have h1 : min b.length k = k := by omega
    have h2 : k < b.length := by omega
    refine ⟨?_, ?_, ?_, ?_⟩ <;> simp [writeE, writeT, Tp.can, Tp.burn, Tp.stop, hr', hk, h1, h2] <;> omega
end Go.Proofs.Ythhjdielananeaa
