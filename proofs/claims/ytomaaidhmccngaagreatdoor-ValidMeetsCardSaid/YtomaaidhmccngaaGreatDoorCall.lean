/-
  What is called of the layers below, over texts as lists of bytes.
-/
import Derived.Test.YtomaaidhmccngaaGreatDoorVal
import Derived.Test.YtomaaidhmccngaaGreatDoorL1
set_option linter.unusedSimpArgs false
set_option linter.unusedVariables false
namespace Go.Proofs.YtomaaidhmccngaaGreatDoor
open Go.RowKit Go.Lib

/-- The listed tables. -/
def Tabs (w : World) : Prop := L2.Tab w
theorem Tabs.kept {w w' : World} (h : Tabs w) (hb : Below w.heap.size w w') : Tabs w' := L2.Tab.kept h hb
theorem nxt {w w1 w2 : World} (h1 : Below w.heap.size w w1) (h2 : Below w1.heap.size w1 w2) : Below w.heap.size w w2 := h1.trans (h2.mono h1.size)
theorem nxtB {B : Nat} {w w1 w2 : World} (h1 : Below B w w1) (h2 : Below w1.heap.size w1 w2) (hB : B ≤ w1.heap.size) : Below B w w2 := h1.trans (h2.mono hB)
/-- A call that hands back v and leaves all that was there. -/
def gives (v : Value) (w : World) (e : Ending) (w' : World) : Prop := e = .returned v ∧ Below w.heap.size w w'
/-- An error, or none. -/
def errI (b : Bool) (k : Int) : Int := if b = true then 0 else k
theorem c_name (l : List UInt8) (w : World) (h : l.length ≤ 9223372036854775807) : Calls Tryz.prog 197 #[.string (str l)] w (gives (.int .i64 (errI (L2.chk l) 20)) w) :=
  (L2.check_any (str l) w (by rw [str_size]; exact h)).mono fun _ _ h => h
theorem c_value (l : List UInt8) (w : World) (h : l.length ≤ 1000000) (hT : Tabs w) : Calls Tryz.prog 211 #[.string (str l)] w (gives (.int .i64 (errI (L2.vlu l) 20)) w) :=
  (L2.value_any (str l) w (by rw [str_size]; exact h) hT).mono fun _ _ h => h
theorem c_refname (l : List UInt8) (w : World) (h : l.length ≤ 1000000) : Calls Tryz.prog 148 #[.string (str l)] w (gives (.bool (L2.chk l)) w) :=
  (L2.refcheck_any (str l) w (by rw [str_size]; exact h)).mono fun _ _ h => h
theorem c_refvalue (l : List UInt8) (w : World) (h : l.length ≤ 1000000) : Calls Tryz.prog 149 #[.string (str l)] w (gives (.bool (L2.vlu l)) w) :=
  (L2.refvalue_any (str l) w (by rw [str_size]; exact h)).mono fun _ _ h => h
theorem c_name_ok (l : List UInt8) (w : World) (h : l.length ≤ 1000000) (hc : L2.chk l = true) : Calls Tryz.prog 197 #[.string (str l)] w (gives (.int .i64 0) w) := by have := c_name l w (by omega); rw [hc] at this; exact this
theorem c_name_no (l : List UInt8) (w : World) (h : l.length ≤ 1000000) (hc : L2.chk l = false) : Calls Tryz.prog 197 #[.string (str l)] w (gives (.int .i64 20) w) := by have := c_name l w (by omega); rw [hc] at this; exact this
theorem c_value_ok (l : List UInt8) (w : World) (h : l.length ≤ 1000000) (hT : Tabs w) (hc : L2.vlu l = true) : Calls Tryz.prog 211 #[.string (str l)] w (gives (.int .i64 0) w) := by have := c_value l w h hT; rw [hc] at this; exact this
theorem c_value_no (l : List UInt8) (w : World) (h : l.length ≤ 1000000) (hT : Tabs w) (hc : L2.vlu l = false) : Calls Tryz.prog 211 #[.string (str l)] w (gives (.int .i64 20) w) := by have := c_value l w h hT; rw [hc] at this; exact this
theorem c_refname_is (l : List UInt8) (w : World) (b : Bool) (h : l.length ≤ 1000000) (hc : L2.chk l = b) : Calls Tryz.prog 148 #[.string (str l)] w (gives (.bool b) w) := by have := c_refname l w h; rw [hc] at this; exact this
theorem c_refvalue_is (l : List UInt8) (w : World) (b : Bool) (h : l.length ≤ 1000000) (hc : L2.vlu l = b) : Calls Tryz.prog 149 #[.string (str l)] w (gives (.bool b) w) := by have := c_refvalue l w h; rw [hc] at this; exact this
theorem posN_eq (n : Int) : (decide (1 ≤ n) && decide (n ≤ 4611686018427387904)) = posN n := by
  unfold posN; rw [Bool.eq_iff_iff]; simp
theorem c_counted (n : Int) (w : World) : Calls Tryz.prog 198 #[.int .i64 n] w fun e w' => e = .returned (.bool (posN n)) ∧ w = w' := by
  have h1 := L1.within_any n 1 4611686018427387904
  rw [posN_eq] at h1
  obtain ⟨b, hb⟩ : ∃ b, b = posN n := ⟨_, rfl⟩
  rw [← hb] at h1 ⊢
  clear hb
  go_enter Tryz.func198, Tryz.ntmps198
  go_wp2_with (go_at_call 210; refine (h1 _).mono ?_; rintro e w1 ⟨rfl, rfl⟩)
  go_ret
  exact ⟨rfl, rfl⟩
theorem c_counted_is (n : Int) (w : World) (b : Bool) (h : posN n = b) : Calls Tryz.prog 198 #[.int .i64 n] w fun e w' => e = .returned (.bool b) ∧ w = w' := by have := c_counted n w; rw [h] at this; exact this
theorem itoa_pos {n : Int} (h : posN n = true) : itoa n = dgs n := by
  obtain ⟨h0, h1⟩ := posN_in h
  obtain ⟨u, rfl⟩ := Int.eq_ofNat_of_zero_le (show 0 ≤ n by omega)
  unfold dgs
  rw [itoa_nonneg, Int.toNat_natCast]
/-- What number tells of a word. -/
def numW (l : List UInt8) : Int := L1.readV l 1 top62
theorem c_clone (l : List UInt8) (w : World) (h : l.length ≤ 1000000) : Calls Tryz.prog 131 #[.string (str l)] w (gives (.string (str l)) w) :=
  (L2.clone_any (str l) w (by rw [str_size]; exact h)).mono fun _ _ h => h
/-- Two texts are one, or not: as the walk asks it. -/
theorem str_eq {l m : List UInt8} (h : l = m) : ((str l).toList == (str m).toList) = true := by rw [h]; simp
theorem str_ne {l m : List UInt8} (h : l ≠ m) : ((str l).toList == (str m).toList) = false := by
  rw [toList_data, toList_data, str_list, str_list]; simpa using h
theorem str_toList (l : List UInt8) : (str l).toList = l := by rw [toList_data, str_list]
end Go.Proofs.YtomaaidhmccngaaGreatDoor
