/-
  The document's table: a struct with two lists of numbers, side by side; one more on either list.
-/
import Derived.Test.YtglnocclhhdbbaaWants
set_option linter.unusedSimpArgs false
set_option linter.unusedVariables false
set_option maxRecDepth 10000
namespace Go.Proofs.Ytglnocclhhdbbaa
open Go.RowKit Go.Lib
open L3 (Blk Reads block_of_add add_of_add)
open L6 (Turn moreB fresh From In)

def inL (x : Int) : List Value := [.int .i64 x]
theorem ints_flat (l : List Int) : l.flatMap inL = l.map (Value.int .i64) := by
  induction l with
  | nil => rfl
  | cons x l ih => rw [List.flatMap_cons, ih]; rfl
def timsOf (L : List Wnt) : List Int := L.map (·.t)
theorem tims_len (L : List Wnt) : (timsOf L).length = L.length := by simp [timsOf]
def rfV (s : FS) (u v : Value) : Array Value := #[.int .i64 s.f, .int .i64 s.me, .int .i64 s.most, .int .i64 s.tries, u, v]
theorem rfInfo : (Try.prog.info? 30).map (·.size) = some 6 := by kernel_rfl
theorem rfV_ones (s : FS) (A B : Option Addr) (n m c d : Nat) : (rfV s (.slice A n c) (.slice B m d)).all (·.oneCell') = true := by kernel_rfl
/-- The numbers of a list at A. -/
abbrev RdI (w : World) (A : Option Addr) (l : List Int) : Prop := Rd inL 1 w A l
theorem own_slice {w : World} {base n : Nat} {v : Value} {xs : List Value} (h : w.ownsRow base 3 1 v n xs) : ∃ A c, v = .slice A n c := by
  rcases h.2 with ⟨rfl, rfl⟩ | ⟨b, cap, cur, rfl, hb, _⟩
  · exact ⟨_, _, rfl⟩
  · exact ⟨_, _, rfl⟩
theorem OwnI.rd {w : World} {base : Nat} {v : Value} {l : List Int} (h : OwnI w base v l) : ∃ A c, v = .slice A l.length c ∧ RdI w A l ∧ ∀ ad, A = some ad → base ≤ ad.block ∧ ad.block < w.heap.size := by
  have h' : w.ownsRow base 3 1 v l.length (l.flatMap inL) := by rw [ints_flat]; exact h
  exact Rd.of_row (f := inL) (k := 1) (fun _ => rfl) h'
/-- One number of a list: its cell. -/
theorem RdI.cell {w : World} {A : Option Addr} {l : List Int} (h : RdI w A l) {j : Nat} (hj : j < l.length) : ∃ ad, A = some ad ∧ ad.block < w.heap.size ∧ w.cell? (ad.add j) = some (.int .i64 l[j]) := by
  obtain ⟨ad, hA, hl, hc⟩ := h j hj
  refine ⟨ad, hA, hl, ?_⟩
  have := hc 0 _ rfl
  rw [add_of_add, Nat.mul_one, Nat.add_zero] at this
  exact this
/-- A table that is being made: its struct at b, the two lists so far. -/
structure YAt (w : World) (b : Nat) (s : FS) (u v : Value) (l m : List Int) (W : World) : Prop where
  y : Blk W b 30 (rfV s u v)
  o4 : OwnI W w.heap.size u l
  o5 : OwnI W w.heap.size v m
  ne : ∀ k, u.ownBlock = some k → v.ownBlock ≠ some k
  bw : Below w.heap.size w W
  ge : w.heap.size ≤ b
section
variable {w W W' : World} {b : Nat} {s : FS} {u v u' : Value} {l m : List Int} {x : Int} {n : Nat}
theorem YAt.below (h : YAt w b s u v l m W) (hb : Below W.heap.size W W') : YAt w b s u v l m W' :=
  ⟨h.y.below hb h.y.lt, row_below h.o4 hb, row_below h.o5 hb, h.ne, nxt h.bw hb, h.ge⟩
theorem YAt.start (w : World) (s : FS) (hW : Below w.heap.size w W) (hb : Blk W b 30 (rfV s (.slice none 0 0) (.slice none 0 0))) (hge : w.heap.size ≤ b) : YAt w b s (.slice none 0 0) (.slice none 0 0) [] [] W :=
  ⟨hb, ownI_nil _ _, ownI_nil _ _, fun k e => by simp [Value.ownBlock] at e, hW, hge⟩
/-- One more on the first list. -/
theorem YAt.app4 (h : YAt w b s u v l m W) (hl : l.length = n) (hr : W'.ownsRow w.heap.size 3 1 u' (n + 1) (l.map (Value.int .i64) ++ [.int .i64 x])) (hg : W.grownBy W' u.ownBlock) (hat : u'.ownBlock = u.ownBlock ∨ u'.ownBlock = some W.heap.size) :
    YAt w b s u' v (l ++ [x]) m (W'.setCell ⟨b, 4, none⟩ u') := by
  have hT : Turn (fun k => u.ownBlock = some k) W W' := L6.Turn.of_grown hg (fun _ h => h)
  have hy := hT.blk h.y (row_ne h.o4 h.y (by decide))
  have hT2 : Turn (fun k => k = b) W' (W'.setCell ⟨b, 4, none⟩ u') := (L6.Turn.refl (fun k => k = b) W').setCell (p := ⟨b, 4, none⟩) (.inl rfl) u'
  have ho5 : OwnI W' w.heap.size v m := hT.row h.o5 (fun k e1 e2 => h.ne k e2 e1)
  have hbw : Below w.heap.size w W' := h.bw.trans (hT.below (fun k e => (h.o4.lt k e).1) h.bw.size)
  refine ⟨hy.set_ 4 u', ?_, hT2.row ho5 (fun k e1 e2 => row_ne ho5 hy (by decide) (by rw [e1, e2])), fun k e1 e2 => ?_, hbw.trans (hT2.below (fun k e => by rw [e]; exact h.ge) hbw.size), h.ge⟩
  · exact ownI_snoc hl (hT2.row hr (fun k e1 e2 => row_ne hr hy (by decide) (by rw [e1, e2])))
  · rcases hat with e | e
    · exact h.ne k (by rw [← e]; exact e1) e2
    · rw [e] at e1
      have := row_lt h.o5 e2
      have : W.heap.size = k := by injection e1
      omega
/-- One more on the second list. -/
theorem YAt.app5 (h : YAt w b s u v l m W) (hl : m.length = n) (hr : W'.ownsRow w.heap.size 3 1 u' (n + 1) (m.map (Value.int .i64) ++ [.int .i64 x])) (hg : W.grownBy W' v.ownBlock) (hat : u'.ownBlock = v.ownBlock ∨ u'.ownBlock = some W.heap.size) :
    YAt w b s u u' l (m ++ [x]) (W'.setCell ⟨b, 5, none⟩ u') := by
  have hT : Turn (fun k => v.ownBlock = some k) W W' := L6.Turn.of_grown hg (fun _ h => h)
  have hy := hT.blk h.y (row_ne h.o5 h.y (by decide))
  have hT2 : Turn (fun k => k = b) W' (W'.setCell ⟨b, 5, none⟩ u') := (L6.Turn.refl (fun k => k = b) W').setCell (p := ⟨b, 5, none⟩) (.inl rfl) u'
  have ho4 : OwnI W' w.heap.size u l := hT.row h.o4 (fun k e1 e2 => h.ne k e1 e2)
  have hbw : Below w.heap.size w W' := h.bw.trans (hT.below (fun k e => (h.o5.lt k e).1) h.bw.size)
  refine ⟨hy.set_ 5 u', hT2.row ho4 (fun k e1 e2 => row_ne ho4 hy (by decide) (by rw [e1, e2])), ?_, fun k e1 e2 => ?_, hbw.trans (hT2.below (fun k e => by rw [e]; exact h.ge) hbw.size), h.ge⟩
  · exact ownI_snoc hl (hT2.row hr (fun k e1 e2 => row_ne hr hy (by decide) (by rw [e1, e2])))
  · rcases hat with e | e
    · exact h.ne k e1 (by rw [← e]; exact e2)
    · rw [e] at e2
      have := row_lt h.o4 e1
      have : W.heap.size = k := by injection e2
      omega
end
/-- What a call of the document's table tells: the table, in its old lists or new ones, and a number. -/
def RFPost (A0 B0 : Option Addr) (s : FS) (k : Int) (w : World) (e : Ending) (w' : World) : Prop :=
  ∃ A c B d, e = .returned (.tuple #[.agg (rfV s (.slice A s.L.length c) (.slice B s.L.length d)), .int .i64 k]) ∧ RdI w' A (numsOf s.L) ∧ RdI w' B (timsOf s.L) ∧
    (∀ ad, A = some ad → A0 = some ad ∨ (w.heap.size ≤ ad.block ∧ ad.block < w'.heap.size)) ∧ (∀ ad, B = some ad → B0 = some ad ∨ (w.heap.size ≤ ad.block ∧ ad.block < w'.heap.size)) ∧ Below w.heap.size w w'
end Go.Proofs.Ytglnocclhhdbbaa
