/-
  What a call may turn: a set of blocks. Objects of which each keeps to its own blocks.
-/
import Derived.Test.YthhjdielananeaaL3Words
import Derived.Maps.OwnSet
set_option linter.unusedSimpArgs false
set_option linter.unusedVariables false
namespace Go.Proofs.Ythhjdielananeaa.L6
open Go.RowKit L3

/-- From w to w' nothing has turned but blocks of S and new ones. -/
structure Turn (S : Nat → Prop) (w w' : World) : Prop where
  os : w'.os = w.os
  tape : w'.tape = w.tape
  output : w'.output = w.output
  size : w.heap.size ≤ w'.heap.size
  block : ∀ k, k < w.heap.size → ¬ S k → w'.heap[k]? = w.heap[k]?

/-- The blocks that are new in w'. -/
def fresh (w w' : World) (k : Nat) : Prop := w.heap.size ≤ k ∧ k < w'.heap.size
/-- S, and what is new. -/
def moreB (S : Nat → Prop) (w w' : World) (k : Nat) : Prop := S k ∨ fresh w w' k

section
variable {S S' : Nat → Prop} {a b c w w' : World} {B : Nat}
theorem Turn.refl (S : Nat → Prop) (w : World) : Turn S w w := ⟨rfl, rfl, rfl, Nat.le_refl _, fun _ _ _ => rfl⟩
theorem Turn.trans (h : Turn S a b) (k : Turn S' b c) (hs : ∀ i, S' i → S i ∨ a.heap.size ≤ i) : Turn S a c :=
  ⟨k.os.trans h.os, k.tape.trans h.tape, k.output.trans h.output, Nat.le_trans h.size k.size, fun i hi hn => (k.block i (Nat.lt_of_lt_of_le hi h.size) (fun hs' => by
    rcases hs i hs' with h' | h'
    · exact hn h'
    · omega)).trans (h.block i hi hn)⟩
theorem Turn.mono (h : Turn S w w') (hs : ∀ i, i < w.heap.size → S i → S' i) : Turn S' w w' := ⟨h.os, h.tape, h.output, h.size, fun i hi hn => h.block i hi (fun h' => hn (hs i hi h'))⟩
theorem Turn.of_keep (h : Below w.heap.size w w') : Turn S w w' := ⟨h.os, h.tape, h.output, h.size, fun i hi _ => h.block i hi⟩
theorem Turn.of_grown {row : Option Nat} (h : w.grownBy w' row) (hs : ∀ i, row = some i → S i) : Turn S w w' := ⟨h.os, h.tape, h.output, h.size, fun i hi hn => h.block i hi (fun e => hn (hs i e.symm))⟩
theorem Turn.below (h : Turn S w w') (hs : ∀ i, S i → B ≤ i) (hB : B ≤ w.heap.size) : Below B w w' := ⟨h.os, h.tape, h.output, h.size, fun i hi => h.block i (Nat.lt_of_lt_of_le hi hB) (fun h' => by have := hs i h'; omega)⟩
theorem Turn.drew (h : Turn S a w) : Turn S a w.drew := ⟨h.os, h.tape, h.output, h.size, h.block⟩
theorem Turn.alloc (h : Turn S a w) (o : Obj) : Turn S a (w.alloc o) := h.trans (Turn.of_keep (S := S) ((Below.refl _ _).alloc (Nat.le_refl _) o)) (fun _ h => .inl h)
theorem Turn.setCell (h : Turn S a w) {p : Addr} (hp : S p.block ∨ a.heap.size ≤ p.block) (u : Value) : Turn S a (w.setCell p u) :=
  h.trans (S' := fun i => i = p.block) ⟨rfl, rfl, rfl, by simp [World.setCell], fun i hi hn => Below.heap_setCell w p u i hn⟩ (fun i e => by subst e; exact hp)
theorem Turn.grown {row : Option Nat} (h : Turn S a w) (hg : w.grownBy w' row) (hr : ∀ i, row = some i → S i ∨ a.heap.size ≤ i) : Turn S a w' :=
  h.trans (S' := fun i => row = some i) (Turn.of_grown hg fun i e => e) hr
theorem Turn.kept (h : Turn S a w) (hb : Below w.heap.size w w') : Turn S a w' := h.trans (S' := S) (Turn.of_keep hb) (fun _ h => .inl h)
theorem Turn.cell (h : Turn S w w') {p : Addr} {v : Value} (hp : w.cell? p = some v) (hs : ¬ S p.block) : w'.cell? p = some v :=
  (World.cell?_of_block (h.block p.block (World.block_lt_of_cell? w p hp) hs)).trans hp
theorem Turn.blk {g : Nat} {t : TypeId} {cs : Array Value} (h : Turn S w w') (hb : Blk w g t cs) (hs : ¬ S g) : Blk w' g t cs := (h.block g hb.lt hs).trans hb
theorem Turn.row {base : Nat} {e : TypeId} {size n : Nat} {v : Value} {xs : List Value} (h : Turn S w w') (hr : w.ownsRow base e size v n xs) (hs : ∀ k, v.ownBlock = some k → ¬ S k) : w'.ownsRow base e size v n xs := by
  refine ⟨hr.1, ?_⟩
  rcases hr.2 with h0 | ⟨g, cap, cur, rfl, hb, hh, h1, h2, h3⟩
  · exact .inl h0
  · exact .inr ⟨g, cap, cur, rfl, hb, (h.block g (Array.getElem?_eq_some_iff.1 hh).1 (hs g rfl)).trans hh, h1, h2, h3⟩
theorem Turn.map {H : Type} {P : Program} {k : TypeId} {R : Value → Option (DataW H × List MemPlace)} {b n : Nat} {D : DataW H} (h : Turn S w w') (hm : w.ownsMap P k R b n D) (hs : ¬ S b) : w'.ownsMap P k R b n D := by
  obtain ⟨es, cl, hb, h1, h2, h3⟩ := hm
  exact ⟨es, cl, (h.block b (Array.getElem?_eq_some_iff.1 hb).1 hs).trans hb, h1, h2, h3⟩
end
/-- S lies from block B on. -/
def From (B : Nat) (S : Nat → Prop) : Prop := ∀ k, S k → B ≤ k
theorem From.fresh (w w' : World) : From w.heap.size (fresh w w') := fun _ h => h.1
theorem From.more {B : Nat} {S : Nat → Prop} {w w' : World} (h : From B S) (hB : B ≤ w.heap.size) : From B (moreB S w w') := fun k hk => by
  rcases hk with hk | hk
  · exact h k hk
  · exact Nat.le_trans hB hk.1
/-- S and T have no block in common. -/
def Apart (S T : Nat → Prop) : Prop := ∀ k, S k → ¬ T k
theorem Apart.symm {S T : Nat → Prop} (h : Apart S T) : Apart T S := fun k hk hs => h k hs hk
/-- S lies in w. -/
def In (w : World) (S : Nat → Prop) : Prop := ∀ k, S k → k < w.heap.size
theorem In.fresh (w w' : World) : In w' (fresh w w') := fun _ h => h.2
theorem In.more {S : Nat → Prop} {w w' : World} (h : In w S) (hs : w.heap.size ≤ w'.heap.size) : In w' (moreB S w w') := fun k hk => by
  rcases hk with hk | hk
  · exact Nat.lt_of_lt_of_le (h k hk) hs
  · exact hk.2
theorem In.le {S : Nat → Prop} {w w' : World} (h : In w S) (hs : w.heap.size ≤ w'.heap.size) : In w' S := fun k hk => Nat.lt_of_lt_of_le (h k hk) hs
theorem Apart.more {S T : Nat → Prop} {w w' : World} (h : Apart S T) (ht : In w T) : Apart (moreB S w w') T := fun k hk hT => by
  rcases hk with hk | hk
  · exact h k hk hT
  · have := ht k hT; have := hk.1; omega
theorem below_drewN {B : Nat} {a b : World} (h : Below B a b) (n : Nat) : Below B a (b.drewN n) := ⟨h.os, h.tape, h.output, h.size, h.block⟩
theorem below_drew {B : Nat} {a b : World} (h : Below B a b) : Below B a b.drew := ⟨h.os, h.tape, h.output, h.size, h.block⟩
theorem undrew {a b : World} (h : Below a.drew.heap.size a.drew b) : Below a.heap.size a b := ⟨h.os, h.tape, h.output, h.size, h.block⟩
theorem undrewT {S : Nat → Prop} {a b : World} (h : Turn S a.drew b) : Turn S a b := ⟨h.os, h.tape, h.output, h.size, h.block⟩
theorem nxt {a b c : World} (h : Below a.heap.size a b) {n : Nat} (k : Below n b c) (hn : a.heap.size ≤ n) : Below a.heap.size a c := h.trans (k.mono hn)
theorem nxtT {a b c : World} {S : Nat → Prop} (h : Below a.heap.size a b) (k : Turn S b c) (hS : From a.heap.size S) : Below a.heap.size a c := h.trans (k.below hS h.size)

/-- A row of strings that the call owns is read as any slice is. -/
theorem row_reads {w : World} {base size : Nat} {e : TypeId} {v : Value} {n : Nat} {xs : List Value} (h : w.ownsRow base e size v n xs) : ∃ A c, v = .slice A n c ∧ n ≤ c ∧ Reads w w.heap.size size A n xs := by
  have h' := h
  rcases h.2 with ⟨rfl, rfl⟩ | ⟨g, cap, cur, rfl, _, _, hc, _⟩
  · exact ⟨none, 0, rfl, Nat.le_refl _, Reads.of_own h'⟩
  · exact ⟨_, cap, rfl, hc, Reads.of_own h'⟩
theorem row_ne_map {H : Type} {P : Program} {k : TypeId} {R : Value → Option (DataW H × List MemPlace)} {b m : Nat} {D : DataW H} {w : World} {base size n : Nat} {e : TypeId} {v : Value} {xs : List Value} (h : w.ownsRow base e size v n xs) (hm : w.ownsMap P k R b m D) : v.ownBlock ≠ some b := by
  obtain ⟨es, cl, hb, _⟩ := hm
  rcases h.2 with ⟨rfl, _⟩ | ⟨g', cap, cur, rfl, _, hh, _⟩
  · simp [Value.ownBlock]
  · intro he
    have : g' = b := by simpa [Value.ownBlock] using he
    subst this
    rw [hb] at hh
    cases hh
theorem blk_ne_map {H : Type} {P : Program} {k t : TypeId} {R : Value → Option (DataW H × List MemPlace)} {b g m : Nat} {D : DataW H} {w : World} {cs : Array Value} (h : Blk w g t cs) (hm : w.ownsMap P k R b m D) : g ≠ b := by
  obtain ⟨es, cl, hb, _⟩ := hm
  rintro rfl
  unfold Blk at h
  rw [hb] at h
  cases h
end Go.Proofs.Ythhjdielananeaa.L6
