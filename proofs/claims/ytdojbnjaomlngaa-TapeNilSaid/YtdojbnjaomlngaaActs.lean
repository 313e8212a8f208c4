/-
  A list of calls, as it lies in memory.
-/
import Derived.Test.YtdojbnjaomlngaaDoA
set_option linter.unusedSimpArgs false
set_option linter.unusedVariables false
namespace Go.Proofs.Ytdojbnjaomlngaa
open Go.RowKit
open L3 (Blk Reads block_of_add add_of_add)

/-- In w a slice of n acts at A. -/
def Acts (w : World) (A : Option Addr) (n : Nat) (D : Nat → Actx) : Prop :=
  ∀ i, i < n → ∃ ad, A = some ad ∧ ad.block < w.heap.size ∧ (∀ j u, (acL (D i))[j]? = some u → w.cell? ((ad.add (i * 3)).add j) = some u) ∧ (D i).fit
theorem Acts.below {w w' : World} {A : Option Addr} {n : Nat} {D : Nat → Actx} (h : Acts w A n D) (hb : Below w.heap.size w w') : Acts w' A n D := by
  intro i hi
  obtain ⟨ad, hA, hl, h0, hf⟩ := h i hi
  exact ⟨ad, hA, Nat.lt_of_lt_of_le hl hb.size, fun j u hj => (hb.cell (p := (ad.add (i * 3)).add j) (by rw [block_of_add, block_of_add]; exact hl)).trans (h0 j u hj), hf⟩
end Go.Proofs.Ytdojbnjaomlngaa
