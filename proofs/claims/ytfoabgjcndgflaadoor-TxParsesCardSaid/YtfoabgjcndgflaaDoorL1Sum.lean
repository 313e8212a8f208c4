/-
  What Sum of layer 1 tells, of the code and of the document's answer, of any slice of numbers: the same. The world stays as it was.
-/
import Derived.Test.YtfoabgjcndgflaaDoorL1Mul
set_option linter.unusedSimpArgs false
set_option linter.unusedVariables false
namespace Go.Proofs.YtfoabgjcndgflaaDoor.L1
open Go.RowKit Go.Lib

def step (a : Option Int) (n : Int) : Option Int := a.bind fun s => if al s && al n && al (s + n) then some (s + n) else none
theorem step_no {s n : Int} (h : (al s && al n && al (s + n)) = false) : step (some s) n = none := by simp only [step, Option.bind_some, h, Bool.false_eq_true, if_false]
theorem step_yes {s n : Int} (h : (al s && al n && al (s + n)) = true) : step (some s) n = some (s + n) := by simp only [step, Option.bind_some, h, if_true]
/-- All of them together, each step as Add. -/
def sumO (l : List Int) : Option Int := l.foldl step (some 0)
def sumV (l : List Int) : Int := (sumO l).getD 0
def sumE (l : List Int) : Int := if (sumO l).isSome then 0 else 10
theorem sumO_snoc (l : List Int) (x : Int) : sumO (l ++ [x]) = step (sumO l) x := by simp [sumO]
theorem sumO_dead (l k : List Int) (h : sumO l = none) : sumO (l ++ k) = none := by
  induction k generalizing l with
  | nil => simpa using h
  | cons x k ih =>
    rw [show l ++ x :: k = l ++ [x] ++ k by simp]
    exact ih _ (by rw [sumO_snoc, h]; rfl)
theorem sumO_dead_take (l : List Int) (k : Nat) (h : sumO (l.take k) = none) : sumO l = none := by
  rw [← List.take_append_drop k l]; exact sumO_dead _ _ h
theorem sumO_take_succ (l : List Int) (k : Nat) (h : k < l.length) : sumO (l.take (k + 1)) = step (sumO (l.take k)) (l.getD k 0) := by
  rw [List.take_succ_eq_append_getElem h, sumO_snoc, List.getD_eq_getElem?_getD, List.getElem?_eq_getElem h]; rfl
theorem step_range {a : Option Int} {n s : Int} (h : step a n = some s) : al s = true := by
  cases a with
  | none => cases h
  | some t =>
    unfold step at h
    simp only [Option.bind_some] at h
    split at h
    · rename_i hh
      simp only [Bool.and_eq_true] at hh
      rw [← Option.some.inj h]; exact hh.2
    · cases h
theorem sumO_range (l : List Int) {s : Int} (h : sumO l = some s) : al s = true := by
  rcases List.eq_nil_or_concat l with rfl | ⟨k, x, rfl⟩
  · have : s = 0 := by simpa [sumO] using h.symm
    rw [this]; decide
  · rw [List.concat_eq_append, sumO_snoc] at h
    exact step_range h

/-- The slice at A reads as these numbers (none of them: whatever A is), below block B. -/
def Ints (w : World) (B : Nat) (A : Option Addr) (zs : List Int) : Prop :=
  zs = [] ∨ ∃ b off, A = some ⟨b, off, none⟩ ∧ b < B ∧ ∀ j, j < zs.length → w.cell? ⟨b, off + j, none⟩ = some (.int .i64 (zs.getD j 0))
theorem Ints.below {w w' : World} {B : Nat} {A : Option Addr} {zs : List Int} (h : Ints w B A zs) (hb : Below B w w') : Ints w' B A zs := by
  rcases h with h | ⟨b, off, e, hlt, hc⟩
  · exact Or.inl h
  · exact Or.inr ⟨b, off, e, hlt, fun j hj => (hb.cell (p := ⟨b, off + j, none⟩) hlt).trans (hc j hj)⟩

theorem two_len {zs : List Int} {len : Nat} (h : zs.length = len) : len ≤ zs.length ∧ zs.length ≤ len := by omega
end Go.Proofs.YtfoabgjcndgflaaDoor.L1
