/-
  A list of calls, as it lies in memory.
-/
import Derived.Test.YtglnocclhhdbbaaRd
set_option linter.unusedSimpArgs false
set_option linter.unusedVariables false
namespace Go.Proofs.Ytglnocclhhdbbaa
open Go.RowKit
open L3 (Blk Reads block_of_add add_of_add)

/-- An act: its Kind, and the number. -/
structure Actx where
  kind : Int
  n : Int
deriving Inhabited
def Actx.fit (x : Actx) : Prop := inI x.kind ∧ inI x.n
/-- In w a slice of n acts at A. -/
def Acts (w : World) (A : Option Addr) (n : Nat) (D : Nat → Actx) : Prop :=
  ∀ i, i < n → ∃ ad, A = some ad ∧ ad.block < w.heap.size ∧ w.cell? (ad.add (i * 2)) = some (.int .i64 (D i).kind) ∧ w.cell? (ad.add (i * 2 + 1)) = some (.int .i64 (D i).n) ∧ (D i).fit
theorem Acts.below {w w' : World} {A : Option Addr} {n : Nat} {D : Nat → Actx} (h : Acts w A n D) (hb : Below w.heap.size w w') : Acts w' A n D := by
  intro i hi
  obtain ⟨ad, hA, hl, h0, h1, hf⟩ := h i hi
  have hk : ∀ j, w'.cell? (ad.add j) = w.cell? (ad.add j) := fun j => hb.cell (by rw [block_of_add]; exact hl)
  exact ⟨ad, hA, Nat.lt_of_lt_of_le hl hb.size, (hk _).trans h0, (hk _).trans h1, hf⟩
end Go.Proofs.Ytglnocclhhdbbaa
