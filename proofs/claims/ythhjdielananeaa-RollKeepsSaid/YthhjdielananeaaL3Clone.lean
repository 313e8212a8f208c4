/-
  A copy of bytes, and the bytes of numbers and texts behind any bytes.
-/
import Derived.Test.YthhjdielananeaaL3Put
import Derived.Lib.LazyBuf
set_option linter.unusedSimpArgs false
set_option linter.unusedVariables false
namespace Go.Proofs.Ythhjdielananeaa.L3
open Go.RowKit Go.Lib

theorem byteCells_one (l : List UInt8) : ∀ u ∈ byteCells l, u.oneCell' = true := by
  intro u hu
  simp only [byteCells, List.mem_map] at hu
  obtain ⟨b, _, rfl⟩ := hu
  rfl
/-- Bytes that the call owns: in w' the slice v holds l, in a block from B on; below B all is as it was in w. -/
def Owned (B : Nat) (v : Value) (l : List UInt8) (w w' : World) : Prop := OwnBuf B 5 v l.length (byteCells l) w w'
theorem Owned.nil (w : World) (B : Nat) (h : B ≤ w.heap.size) : Owned B (.slice none 0 0) [] w w := ⟨World.ownsRowF_nil _ _ _ _, Below.refl _ _, h⟩

set_option maxHeartbeats 1000000 in
set_option maxRecDepth 100000 in
theorem clone_any (B : Nat) (A : Option Addr) (n c : Nat) (l : List UInt8) (w : World) (h : Reads w B 1 A n (byteCells l)) (hl : n ≤ 1000000000) (hB : B ≤ w.heap.size) :
    Calls Try.prog 49 #[.slice A n c] w fun e w' => ∃ v', e = .returned v' ∧ Owned w.heap.size v' l w w' := by
  obtain ⟨i0, hi, hz0, hz1, hz2⟩ := info_parts byteInfo
  have hn : l.length = n := by have := h.1; simpa [byteCells] using this
  subst hn
  rcases A with _ | ad
  · have hl0 : l = [] := by
      rcases Nat.eq_zero_or_pos l.length with h0 | h0
      · exact List.eq_nil_of_length_eq_zero h0
      · obtain ⟨ad, h', _⟩ := h.2 h0
        cases h'
    subst hl0
    have hq : ∀ w : World, (binOp .eql 53 (.slice none 0 c) (.slice none 0 0)).run Try.prog w = .ok (.bool true) w := fun w => _root_.Go.run_eql_slice_nil w 53 5 none 0 c Try.underlying53
    go_enter Try.func49, Try.ntmps49
    go_wp2
    go_ret
    exact ⟨_, rfl, Owned.nil _ _ (Nat.le_refl _)⟩
  · have hq : ∀ w : World, (binOp .eql 53 (.slice (some ad) l.length c) (.slice none 0 0)).run Try.prog w = .ok (.bool false) w := fun w => _root_.Go.run_eql_slice_nil w 53 5 (some ad) l.length c Try.underlying53
    go_enter Try.func49, Try.ntmps49
    go_wp2_with (at_builtin; refine wpList_append_any _ rfl _ _ _ rfl w.heap.size 5 i0 (.int .u8 0) 1 1 Try.underlying53 hi hz0 hz1 hz2 rfl (by decide) (.slice (some ⟨w.heap.size, 0, none⟩) 0 0) 0 [] rfl (World.ownsRow_made _ _ 0 (by simp) (by decide) rfl) B (some ad) l.length c (byteCells l) rfl (h.alloc hB _) (byteCells_one l) (by unfold maxLen; omega) (by omega) (by simp) ?_)
    intro v' w' ho hg _
    go_wp2_with fail
    go_ret
    exact ⟨_, rfl, World.ownsRowF_of ho, ((Below.refl _ _).alloc (Nat.le_refl _) _).grown hg (by simp) (fun k hk => by simp [Value.ownBlock] at hk; omega), by have := hg.size; simp at this; omega⟩
/-- Bytes that the call owns, read as any slice is read. -/
theorem Owned.form {B : Nat} {v : Value} {l : List UInt8} {w w' : World} (h : Owned B v l w w') : ∃ A c, v = .slice A l.length c ∧ Reads w' w'.heap.size 1 A l.length (byteCells l) ∧ l.length ≤ c := by
  rcases h.1.2 with ⟨rfl, h0⟩ | ⟨g, cap, cur, fz, rfl, hb, hh, _, hn, _, hsz, htake⟩
  · have : l = [] := List.eq_nil_of_length_eq_zero h0
    subst this
    exact ⟨none, 0, rfl, Reads.none_, Nat.le_refl _⟩
  · refine ⟨some ⟨g, 0, none⟩, cap, rfl, ⟨by simp [byteCells], fun _ => ⟨_, rfl, (Array.getElem?_eq_some_iff.1 hh).1, h.1.cells (g := g) rfl⟩⟩, hn⟩

/-- What a call tells that writes: bytes that it owns, and no error. -/
def wrote (l : List UInt8) (w : World) (e : Ending) (w' : World) : Prop := ∃ v, e = .returned (.tuple #[v, .int .i64 0]) ∧ Owned w.heap.size v l w w'
/-- What a call tells that refuses: none, and an error. -/
def refused (k : Int) (w : World) (e : Ending) (w' : World) : Prop := e = .returned (.tuple #[.slice none 0 0, .int .i64 k]) ∧ Below w.heap.size w w'

end Go.Proofs.Ythhjdielananeaa.L3
