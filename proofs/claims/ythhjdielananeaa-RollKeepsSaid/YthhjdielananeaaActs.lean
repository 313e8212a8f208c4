/-
  A list of calls, as it lies in memory.
-/
import Derived.Test.YthhjdielananeaaLin
set_option linter.unusedSimpArgs false
set_option linter.unusedVariables false
namespace Go.Proofs.Ythhjdielananeaa
open Go.RowKit
open L3 (Blk Reads block_of_add add_of_add)

/-- A call, that came in: its kind, its text, and one of a tape's own. -/
structure Actx where
  kind : Int
  s : List UInt8
  k2 : Int
  n2 : Int
  s2 : List UInt8
deriving Inhabited
structure Actx.fit (x : Actx) : Prop where
  k : inI x.kind
  s : x.s.length ≤ maxLen
  k2 : inI x.k2
  n2 : inI x.n2
  s2 : x.s2.length ≤ maxLen
def acL (x : Actx) : List Value := [.int .i64 x.kind, .string (str x.s), .int .i64 x.k2, .int .i64 x.n2, .string (str x.s2)]
def acC (x : Actx) : Array Value := #[.int .i64 x.kind, .string (str x.s), .int .i64 x.k2, .int .i64 x.n2, .string (str x.s2)]
theorem acInfo : (Try.prog.info? 44).map (·.size) = some 5 := by kernel_rfl
theorem acC_ones (x : Actx) : (acC x).all (·.oneCell') = true := by kernel_rfl
/-- In w a slice of n calls at A. -/
def Acts (w : World) (A : Option Addr) (n : Nat) (D : Nat → Actx) : Prop :=
  ∀ i, i < n → ∃ ad, A = some ad ∧ ad.block < w.heap.size ∧ (∀ j u, (acL (D i))[j]? = some u → w.cell? ((ad.add (i * 5)).add j) = some u) ∧ (D i).fit
theorem Acts.below {w w' : World} {A : Option Addr} {n : Nat} {D : Nat → Actx} (h : Acts w A n D) (hb : Below w.heap.size w w') : Acts w' A n D := by
  intro i hi
  obtain ⟨ad, hA, hl, h0, hf⟩ := h i hi
  exact ⟨ad, hA, Nat.lt_of_lt_of_le hl hb.size, fun j u hj => (hb.cell (p := (ad.add (i * 5)).add j) (by rw [block_of_add, block_of_add]; exact hl)).trans (h0 j u hj), hf⟩
end Go.Proofs.Ythhjdielananeaa
