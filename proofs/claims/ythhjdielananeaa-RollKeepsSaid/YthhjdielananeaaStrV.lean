/-
  Texts and bytes.
-/
import Derived.Test.YthhjdielananeaaBts
import Derived.Lib.ConvBytes
import Derived.Laws.IdiomStrings
set_option linter.unusedSimpArgs false
set_option linter.unusedVariables false
set_option maxRecDepth 10000
namespace Go.Proofs.Ythhjdielananeaa
open Go.RowKit Go.Lib
open L3 (Blk Reads block_of_add add_of_add)
open L6 (Turn moreB fresh From In)

abbrev str (l : List UInt8) : ByteArray := ⟨l.toArray⟩
theorem str_size (l : List UInt8) : (str l).size = l.length := by show l.toArray.size = _; simp
theorem str_of (s : ByteArray) : str s.data.toList = s := by cases s; rfl
/-- A text's bytes in new memory. -/
theorem str_bytes (w : World) (l : List UInt8) : ∃ c w', (convert 9 53 (.string (str l))).run Try.prog w = .ok (.slice (some ⟨w.heap.size, 0, none⟩) l.length c) w' ∧ Reads w' w'.heap.size 1 (some ⟨w.heap.size, 0, none⟩) l.length (bcs l) ∧ Below w.heap.size w w' := by
  have h := Lib.run_convert_string_bytes w 9 53 5 (str l) Try.underlying9 Try.underlying53 Try.underlying5
  rw [str_size] at h
  refine ⟨_, _, h, ⟨by rw [bcs_len, Nat.mul_one], fun _ => ⟨_, rfl, ?_, fun j u hu => ?_⟩⟩, ⟨rfl, rfl, rfl, ?_, fun k hk => Lib.bytesWorld_at_old w _ _ k hk⟩⟩
  · rw [Lib.bytesWorld_size]; exact Nat.lt_succ_self _
  · have hj : j < l.length := by have := (List.getElem?_eq_some_iff.1 hu).1; rwa [bcs_len] at this
    rw [Addr.add_lit, Nat.zero_add, Lib.bytesWorld_cell w _ (str l) j (by rw [str_size]; exact hj), ← hu, bcs_get l j hj]
    have : (str l).data.toList = l := rfl
    rw [this, List.getD_eq_getElem?_getD, List.getElem?_eq_getElem hj]
    rfl
  · rw [Lib.bytesWorld_size]; omega
/-- Bytes as a text. -/
theorem conv_reads {w : World} {B n c k : Nat} {A : Option Addr} {l : List UInt8} (h : Reads w B 1 A n (bcs l)) (hk : k ≤ n) :
    (convert 53 9 (.slice A k c)).run Try.prog w = .ok (.string (str (l.take k))) w := by
  have hn : l.length = n := by have := h.1; rw [bcs_len] at this; omega
  rcases A with _ | ad
  · have hn0 : n = 0 := by
      rcases Nat.eq_zero_or_pos n with h0 | h0
      · exact h0
      · obtain ⟨ad, h', _⟩ := h.2 h0
        cases h'
    obtain rfl : k = 0 := by omega
    rw [run_convert_bytes_string w 53 9 5 none 0 c Try.underlying53 Try.underlying5 Try.underlying9]
    rfl
  · have hl : (l.take k).length = k := by simp; omega
    have := run_convert_bytes_back (P := Try.prog) w 53 9 5 ad c (l.take k) Try.underlying53 Try.underlying5 Try.underlying9 (fun j hj => by
      rw [hl] at hj
      obtain ⟨ad', u, e, _, hx, hc⟩ := h.at_ (k := j) (by omega)
      injection e with e
      subst e
      rw [hc]
      rw [bcs_get l j (by omega)] at hx
      injection hx with hx
      simp [← hx])
    rw [hl] at this
    exact this

/-! No tape -/
end Go.Proofs.Ythhjdielananeaa
