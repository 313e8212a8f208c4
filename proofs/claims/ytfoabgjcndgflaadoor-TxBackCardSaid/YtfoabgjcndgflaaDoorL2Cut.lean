/-
  Both parts of a text, by the code.
-/
import Derived.Test.YtfoabgjcndgflaaDoorL2Range
import Derived.Deep.RegionWith
set_option linter.unusedSimpArgs false
set_option linter.unusedVariables false
namespace Go.Proofs.YtfoabgjcndgflaaDoor.L2
open Go.RowKit Go.Lib

theorem ext_size {s : ByteArray} {n : Nat} (hs : s.size ≤ n) (a b : Nat) : (s.extract a b).size ≤ n := by
  rw [size_len, extract_data]
  rw [List.length_take, List.length_drop, ← size_len]
  omega
theorem nxt {B : Nat} {w w1 w2 : World} (h1 : Below B w w1) (h2 : Below w1.heap.size w1 w2) (hB : B ≤ w1.heap.size) : Below B w w2 := h1.trans (h2.mono hB)
theorem bdrewN {B : Nat} {a w : World} (h : Below B a w) (n : Nat) : Below B a (w.drewN n) := ⟨h.os, h.tape, h.output, h.size, h.block⟩
theorem clone_any (s : ByteArray) (w : World) (hs : s.size ≤ 1000000) :
    Calls Tryd.prog 52 #[.string s] w fun e w' => e = .returned (.string s) ∧ Below w.heap.size w w' := by
  go_enter Tryd.func52, Tryd.ntmps52
  go_wp2_with (go_at_call 63; refine (Tryd.stringslite_Clone _ _ (by omega)).mono ?_; rintro e w1 ⟨rfl, hb1⟩)
  go_ret
  exact ⟨rfl, hb1⟩
/-- Both parts, and what became of the world. -/
def cutPost (l : List UInt8) (p : Nat) (w : World) (e : Ending) (w' : World) : Prop :=
  e = .returned (.tuple #[.string (strOf (l.take p)), .string (strOf (l.drop p))]) ∧ Below w.heap.size w w'
end Go.Proofs.YtfoabgjcndgflaaDoor.L2
