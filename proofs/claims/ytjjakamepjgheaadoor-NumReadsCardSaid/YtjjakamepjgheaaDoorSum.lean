/-
  What Sum of layer 1 tells, of the code and of the document's answer, of any slice of numbers: the same. The world stays as it was.
-/
import Derived.Test.YtjjakamepjgheaaDoorMul
set_option linter.unusedSimpArgs false
set_option linter.unusedVariables false
namespace Go.Proofs.YtjjakamepjgheaaDoor
open Go.RowKit Go.Lib

def step (a : Option Int) (n : Int) : Option Int := a.bind fun s => if al s && al n && al (s + n) then some (s + n) else none
theorem step_no {s n : Int} (h : (al s && al n && al (s + n)) = false) : step (some s) n = none := by simp only [step, Option.bind_some, h, Bool.false_eq_true, if_false]
theorem step_yes {s n : Int} (h : (al s && al n && al (s + n)) = true) : step (some s) n = some (s + n) := by simp only [step, Option.bind_some, h, if_true]
/-- All of them together, each step as Add. -/
def sumO (l : List Int) : Option Int := l.foldl step (some 0)
def sumV (l : List Int) : Int := (sumO l).getD 0
def sumE (l : List Int) : Int := if (sumO l).isSome then 0 else 10
theorem sumO_snoc (l : List Int) (x : Int) : sumO (l ++ [x]) = step (sumO l) x := by simp [sumO]
theorem sumO_dead (l k : List Int) (h : sumO l = none) : sumO (l ++ k) = none := by
  induction k generalizing l with
  | nil => simpa using h
  | cons x k ih =>
    rw [show l ++ x :: k = l ++ [x] ++ k by simp]
    exact ih _ (by rw [sumO_snoc, h]; rfl)
theorem sumO_dead_take (l : List Int) (k : Nat) (h : sumO (l.take k) = none) : sumO l = none := by
  rw [← List.take_append_drop k l]; exact sumO_dead _ _ h
theorem sumO_take_succ (l : List Int) (k : Nat) (h : k < l.length) : sumO (l.take (k + 1)) = step (sumO (l.take k)) (l.getD k 0) := by
  rw [List.take_succ_eq_append_getElem h, sumO_snoc, List.getD_eq_getElem?_getD, List.getElem?_eq_getElem h]; rfl
theorem step_range {a : Option Int} {n s : Int} (h : step a n = some s) : al s = true := by
  cases a with
  | none => cases h
  | some t =>
    unfold step at h
    simp only [Option.bind_some] at h
    split at h
    · rename_i hh
      simp only [Bool.and_eq_true] at hh
      rw [← Option.some.inj h]; exact hh.2
    · cases h
theorem sumO_range (l : List Int) {s : Int} (h : sumO l = some s) : al s = true := by
  rcases List.eq_nil_or_concat l with rfl | ⟨k, x, rfl⟩
  · have : s = 0 := by simpa [sumO] using h.symm
    rw [this]; decide
  · rw [List.concat_eq_append, sumO_snoc] at h
    exact step_range h

/-- The slice at A reads as these numbers (none of them: whatever A is), below block B. -/
def Ints (w : World) (B : Nat) (A : Option Addr) (zs : List Int) : Prop :=
  zs = [] ∨ ∃ b off, A = some ⟨b, off, none⟩ ∧ b < B ∧ ∀ j, j < zs.length → w.cell? ⟨b, off + j, none⟩ = some (.int .i64 (zs.getD j 0))
theorem Ints.below {w w' : World} {B : Nat} {A : Option Addr} {zs : List Int} (h : Ints w B A zs) (hb : Below B w w') : Ints w' B A zs := by
  rcases h with h | ⟨b, off, e, hlt, hc⟩
  · exact Or.inl h
  · exact Or.inr ⟨b, off, e, hlt, fun j hj => (hb.cell (p := ⟨b, off + j, none⟩) hlt).trans (hc j hj)⟩

theorem sum_none (A : Option Addr) (cap : Nat) (w : World) :
    Calls Tryd.prog 14 #[.slice A 0 cap] w fun e w' => e = two 0 0 ∧ w = w' := by
  go_enter Tryd.func14, Tryd.ntmps14
  go_wp2
  go_loop [4, 11] (fun t i => i = .int .i64 0 ∧ t = .int .i64 0) (fun _ _ => 0)
  case atStart => exact ⟨rfl, rfl⟩
  case round =>
    obtain ⟨rfl, rfl⟩ := hrel
    go_wp2
    go_ret2
    exact ⟨rfl, rfl⟩
theorem sum_some (b off len cap : Nat) (zs : List Int) (w : World) (hz : len ≤ zs.length) (hz' : zs.length ≤ len) (hbig : len ≤ 9223372036854775807)
    (hc : ∀ j, j < zs.length → w.cell? ⟨b, off + j, none⟩ = some (.int .i64 (zs.getD j 0))) (hr : ∀ j, -9223372036854775808 ≤ zs.getD j 0 ∧ zs.getD j 0 ≤ 9223372036854775807) :
    Calls Tryd.prog 14 #[.slice (some ⟨b, off, none⟩) len cap] w fun e w' => e = two (sumV zs) (sumE zs) ∧ w = w' := by
  have HC := Lib.hid hc
  clear hc
  go_enter Tryd.func14, Tryd.ntmps14
  go_wp2
  go_loop [4, 11] (fun t i => ∃ (k : Nat) (s : Int), k ≤ len ∧ i = .int .i64 k ∧ t = .int .i64 s ∧ sumO (zs.take k) = some s) (fun _ i => len - (RowKit.intOf i).toNat)
  case atStart => exact ⟨0, 0, Nat.zero_le _, rfl, rfl, rfl⟩
  case round =>
    obtain ⟨k, s, hk, rfl, rfl, hs⟩ := hrel
    have has := sumO_range _ hs
    have rs := al_iff.1 has
    obtain ⟨rs0, rs1⟩ := rs
    by_cases hlt : k < len
    · have hcell := HC.out k (by omega)
      have hst := sumO_take_succ zs k (by omega)
      rw [hs] at hst
      have hrk := hr k
      obtain ⟨r0, r1⟩ := hrk
      clear hs hr
      cases hg : (al s && al (zs.getD k 0) && al (s + zs.getD k 0))
      · have hn : sumO (zs.take (k + 1)) = none := by rw [hst]; exact step_no hg
        have hz0 := sumO_dead_take zs _ hn
        have hv : okv (al s && al (zs.getD k 0)) (s + zs.getD k 0) = 0 ∧ oke (al s && al (zs.getD k 0)) (s + zs.getD k 0) = 10 := by unfold okv oke; rw [hg]; exact ⟨rfl, rfl⟩
        have HV := Lib.hid hv
        have HZ := Lib.hid hz0
        clear hst hn hg hv hz0 has
        go_wp2_with (go_at_call 8; refine (add_any s (zs.getD k 0) _ (by omega) (by omega) r0 r1).mono ?_; rw [HV.out.1, HV.out.2]; unfold two; rintro e w' ⟨rfl, rfl⟩)
        go_ret2
        have hz := HZ.out
        exact ⟨two_eq (by unfold sumV; rw [hz]; rfl) (by unfold sumE; rw [hz]; rfl), rfl⟩
      · have hn : sumO (zs.take (k + 1)) = some (s + zs.getD k 0) := by rw [hst]; exact step_yes hg
        have hv : okv (al s && al (zs.getD k 0)) (s + zs.getD k 0) = s + zs.getD k 0 ∧ oke (al s && al (zs.getD k 0)) (s + zs.getD k 0) = 0 := by unfold okv oke; rw [hg]; exact ⟨rfl, rfl⟩
        have HV := Lib.hid hv
        have HN := Lib.hid hn
        clear hst hn hg hv has
        go_wp2_with (go_at_call 8; refine (add_any s (zs.getD k 0) _ (by omega) (by omega) r0 r1).mono ?_; rw [HV.out.1, HV.out.2]; unfold two; rintro e w' ⟨rfl, rfl⟩)
        go_round
        case rel => exact ⟨k + 1, _, by omega, by go_num, rfl, HN.out⟩
        case measure => simp [RowKit.intOf]; omega
    · have e : zs.take k = zs := List.take_of_length_le (by omega)
      rw [e] at hs
      have HS := Lib.hid hs
      clear hs e has hr
      go_wp2
      go_ret2
      have hs := HS.out
      exact ⟨two_eq (by unfold sumV; rw [hs]; rfl) (by unfold sumE; rw [hs]; rfl), rfl⟩
theorem refsum_none (A : Option Addr) (cap : Nat) (w : World) :
    Calls Tryd.prog 15 #[.slice A 0 cap] w fun e w' => e = two 0 0 ∧ w = w' := by
  go_enter Tryd.func15, Tryd.ntmps15
  go_wp2
  go_loop [4, 5] (fun t i => i = .int .i64 0 ∧ t = .int .i64 0) (fun _ _ => 0)
  case atStart => exact ⟨rfl, rfl⟩
  case round =>
    obtain ⟨rfl, rfl⟩ := hrel
    go_wp2
    go_ret2
    exact ⟨rfl, rfl⟩
theorem refsum_some (b off len cap : Nat) (zs : List Int) (w : World) (hz : len ≤ zs.length) (hz' : zs.length ≤ len) (hbig : len ≤ 9223372036854775807)
    (hc : ∀ j, j < zs.length → w.cell? ⟨b, off + j, none⟩ = some (.int .i64 (zs.getD j 0))) (hr : ∀ j, -9223372036854775808 ≤ zs.getD j 0 ∧ zs.getD j 0 ≤ 9223372036854775807) :
    Calls Tryd.prog 15 #[.slice (some ⟨b, off, none⟩) len cap] w fun e w' => e = two (sumV zs) (sumE zs) ∧ w = w' := by
  have HC := Lib.hid hc
  clear hc
  go_enter Tryd.func15, Tryd.ntmps15
  go_wp2
  go_loop [4, 5] (fun t i => ∃ (k : Nat) (s : Int), k ≤ len ∧ i = .int .i64 k ∧ t = .int .i64 s ∧ sumO (zs.take k) = some s) (fun _ i => len - (RowKit.intOf i).toNat)
  case atStart => exact ⟨0, 0, Nat.zero_le _, rfl, rfl, rfl⟩
  case round =>
    obtain ⟨k, s, hk, rfl, rfl, hs⟩ := hrel
    have has := sumO_range _ hs
    have rs := al_iff.1 has
    obtain ⟨rs0, rs1⟩ := rs
    by_cases hlt : k < len
    · have hcell := HC.out k (by omega)
      have hst := sumO_take_succ zs k (by omega)
      rw [hs] at hst
      have hrk := hr k
      obtain ⟨r0, r1⟩ := hrk
      clear hs hr
      cases hg : (al s && al (zs.getD k 0) && al (s + zs.getD k 0))
      · have hn : sumO (zs.take (k + 1)) = none := by rw [hst]; exact step_no hg
        have hz0 := sumO_dead_take zs _ hn
        have hv : okv (al s && al (zs.getD k 0)) (s + zs.getD k 0) = 0 ∧ oke (al s && al (zs.getD k 0)) (s + zs.getD k 0) = 10 := by unfold okv oke; rw [hg]; exact ⟨rfl, rfl⟩
        have HV := Lib.hid hv
        have HZ := Lib.hid hz0
        clear hst hn hg hv hz0 has
        go_wp2_with (go_at_call 9; refine (refadd_any s (zs.getD k 0) _ (by omega) (by omega) r0 r1).mono ?_; rw [HV.out.1, HV.out.2]; unfold two; rintro e w' ⟨rfl, rfl⟩)
        go_ret2
        have hz := HZ.out
        exact ⟨two_eq (by unfold sumV; rw [hz]; rfl) (by unfold sumE; rw [hz]; rfl), rfl⟩
      · have hn : sumO (zs.take (k + 1)) = some (s + zs.getD k 0) := by rw [hst]; exact step_yes hg
        have hv : okv (al s && al (zs.getD k 0)) (s + zs.getD k 0) = s + zs.getD k 0 ∧ oke (al s && al (zs.getD k 0)) (s + zs.getD k 0) = 0 := by unfold okv oke; rw [hg]; exact ⟨rfl, rfl⟩
        have HV := Lib.hid hv
        have HN := Lib.hid hn
        clear hst hn hg hv has
        go_wp2_with (go_at_call 9; refine (refadd_any s (zs.getD k 0) _ (by omega) (by omega) r0 r1).mono ?_; rw [HV.out.1, HV.out.2]; unfold two; rintro e w' ⟨rfl, rfl⟩)
        go_round
        case rel => exact ⟨k + 1, _, by omega, by go_num, rfl, HN.out⟩
        case measure => simp [RowKit.intOf]; omega
    · have e : zs.take k = zs := List.take_of_length_le (by omega)
      rw [e] at hs
      have HS := Lib.hid hs
      clear hs e has hr
      go_wp2
      go_ret2
      have hs := HS.out
      exact ⟨two_eq (by unfold sumV; rw [hs]; rfl) (by unfold sumE; rw [hs]; rfl), rfl⟩

theorem two_len {zs : List Int} {len : Nat} (h : zs.length = len) : len ≤ zs.length ∧ zs.length ≤ len := by omega
theorem sum_any (A : Option Addr) (cap B : Nat) (zs : List Int) (w : World) (h : Ints w B A zs) (hbig : zs.length ≤ 9223372036854775807) (hr : ∀ j, -9223372036854775808 ≤ zs.getD j 0 ∧ zs.getD j 0 ≤ 9223372036854775807) :
    Calls Tryd.prog 14 #[.slice A zs.length cap] w fun e w' => e = two (sumV zs) (sumE zs) ∧ w = w' := by
  rcases h with rfl | ⟨b, off, rfl, _, hc⟩
  · exact sum_none A cap w
  · exact sum_some b off zs.length cap zs w (Nat.le_refl _) (Nat.le_refl _) hbig hc hr
theorem refsum_any (A : Option Addr) (cap B : Nat) (zs : List Int) (w : World) (h : Ints w B A zs) (hbig : zs.length ≤ 9223372036854775807) (hr : ∀ j, -9223372036854775808 ≤ zs.getD j 0 ∧ zs.getD j 0 ≤ 9223372036854775807) :
    Calls Tryd.prog 15 #[.slice A zs.length cap] w fun e w' => e = two (sumV zs) (sumE zs) ∧ w = w' := by
  rcases h with rfl | ⟨b, off, rfl, _, hc⟩
  · exact refsum_none A cap w
  · exact refsum_some b off zs.length cap zs w (Nat.le_refl _) (Nat.le_refl _) hbig hc hr
end Go.Proofs.YtjjakamepjgheaaDoor
