/-
  What utf8.DecodeRuneInString tells of a text that isn't empty, where Go's two tables are laid; whether a text begins with what is no UTF-8.
-/
import Derived.Test.YtfoabgjcndgflaaDoorL2Range
set_option linter.unusedSimpArgs false
set_option linter.unusedVariables false
namespace Go.Proofs.YtfoabgjcndgflaaDoor.L2
open Go.RowKit Go.Lib

/-- The two tables, as the program's text lays them. -/
def Tab (w : World) : Prop := Lib.Utf8Tabs 1 2 w
theorem cell_in {w : World} {a : Addr} {v : Value} (h : w.cell? a = some v) : a.block < w.heap.size := by
  rcases Nat.lt_or_ge a.block w.heap.size with hlt | hge
  · exact hlt
  · have e : w.heap[a.block]? = none := Array.getElem?_eq_none hge
    simp [World.cell?, e] at h
theorem Tab.kept {w w' : World} (h : Tab w) (hb : Below w.heap.size w w') : Tab w' := by
  obtain ⟨h1, h2⟩ := h
  refine ⟨fun c hc => ?_, fun i hi => ⟨?_, ?_⟩⟩
  · have := h1 c hc
    exact (hb.cell (cell_in this)).trans this
  · have := (h2 i hi).1
    exact (hb.cell (cell_in this)).trans this
  · have := (h2 i hi).2
    exact (hb.cell (cell_in this)).trans this
theorem decode_any (s : ByteArray) (w : World) (hT : Tab w) (h : 0 < s.size) :
    Calls Tryd.prog 70 #[.string s] w fun e w' => e = .returned (.tuple #[.int .i32 ((dec s.data.toList).1 : Int), .int .i64 ((dec s.data.toList).2 : Int)]) ∧ Below w.heap.size w w' := by
  refine (Tryd.utf8_DecodeRuneInString s w hT).mono ?_
  rintro e w' ⟨rfl, hb⟩
  have e1 : Lib.decodeGo s = dec s.data.toList := by
    unfold Lib.decodeGo
    rw [if_neg (by omega), dec_at, List.drop_zero]
  exact ⟨by rw [e1], hb⟩
set_option maxHeartbeats 1000000 in
theorem broken_any (s : ByteArray) (w : World) (hT : Tab w) (h : 0 < s.size) :
    Calls Tryd.prog 59 #[.string s] w fun e w' => e = .returned (.bool (!okR (dec s.data.toList))) ∧ Below w.heap.size w w' := by
  have HT := Lib.hid hT
  clear hT
  go_enter Tryd.func59, Tryd.ntmps59
  go_wp2_with (go_at_call 70; refine (decode_any _ _ HT.out h).mono ?_; rintro e w1 ⟨rfl, hb1⟩)
  all_goals
    go_ret
    refine ⟨ret_bool ?_, hb1⟩
    unfold okR
    rw [Bool.eq_iff_iff]
    simp only [beq_iff_eq, beq_eq_false_iff_ne, bne_iff_ne, ne_eq, decide_eq_true_eq, Bool.false_eq_true, Bool.and_eq_true, Bool.or_eq_true, Bool.not_not, true_iff, false_iff, iff_true, iff_false] at *
    omega
end Go.Proofs.YtfoabgjcndgflaaDoor.L2
