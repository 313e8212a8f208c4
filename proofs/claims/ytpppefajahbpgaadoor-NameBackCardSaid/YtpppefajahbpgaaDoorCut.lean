/-
  Both parts of a text, by the code.
-/
import Derived.Test.YtpppefajahbpgaaDoorRange
import Derived.Deep.RegionWith
set_option linter.unusedSimpArgs false
set_option linter.unusedVariables false
namespace Go.Proofs.YtpppefajahbpgaaDoor
open Go.RowKit Go.Lib

theorem ext_size {s : ByteArray} {n : Nat} (hs : s.size ≤ n) (a b : Nat) : (s.extract a b).size ≤ n := by
  rw [size_len, extract_data]
  rw [List.length_take, List.length_drop, ← size_len]
  omega
theorem nxt {B : Nat} {w w1 w2 : World} (h1 : Below B w w1) (h2 : Below w1.heap.size w1 w2) (hB : B ≤ w1.heap.size) : Below B w w2 := h1.trans (h2.mono hB)
theorem bdrewN {B : Nat} {a w : World} (h : Below B a w) (n : Nat) : Below B a (w.drewN n) := ⟨h.os, h.tape, h.output, h.size, h.block⟩
theorem clone_any (s : ByteArray) (w : World) (hs : s.size ≤ 1000000) :
    Calls Tryd.prog 29 #[.string s] w fun e w' => e = .returned (.string s) ∧ Below w.heap.size w w' := by
  go_enter Tryd.func29, Tryd.ntmps29
  go_wp2_with (go_at_call 36; refine (Tryd.stringslite_Clone _ _ (by omega)).mono ?_; rintro e w1 ⟨rfl, hb1⟩)
  go_ret
  exact ⟨rfl, hb1⟩
/-- Both parts, and what became of the world. -/
def cutPost (l : List UInt8) (p : Nat) (w : World) (e : Ending) (w' : World) : Prop :=
  e = .returned (.tuple #[.string (strOf (l.take p)), .string (strOf (l.drop p))]) ∧ Below w.heap.size w w'
set_option maxHeartbeats 1000000 in
set_option maxRecDepth 100000 in
theorem cut_any (s : ByteArray) (n : Int) (w : World) (hs : s.size ≤ 1000000) (hn0 : -9223372036854775808 ≤ n) (hn1 : n ≤ 9223372036854775807) :
    Calls Tryd.prog 16 #[.string s, .int .i64 n] w (cutPost s.data.toList (plc s.data.toList n.toNat) w) := by
  have hp := plc_le s.data.toList n.toNat
  rw [← size_len] at hp
  go_enter Tryd.func16, Tryd.ntmps16
  go_wp2_with (go_at_call 28; refine (place_any _ _ _ hs hn0 hn1).mono ?_; rintro e w1 ⟨rfl, hb1⟩)
  go_region_with (go_at_call 29; refine (clone_any _ _ (ext_size hs _ _)).mono ?_; rintro e w2 ⟨rfl, hb2⟩; (first | replace hb1 := nxt hb1 hb2 hb1.size | replace hb1 := nxt hb1.drew hb2 hb1.drew.size); clear hb2)
  all_goals
    go_wp2
    go_ret2
    exact ⟨by rw [← head_of, ← tail_of]; rfl, hb1⟩
end Go.Proofs.YtpppefajahbpgaaDoor
