/-
  There and back: the number of a number's text; sums of one number many times. Plain.
-/
import Derived.Test.YtfoabgjcndgflaaDoorL1Print
import Derived.Test.YtfoabgjcndgflaaDoorL1Sum
import Derived.Deep.OwnRows
set_option linter.unusedSimpArgs false
set_option linter.unusedVariables false
namespace Go.Proofs.YtfoabgjcndgflaaDoor.L1
open Go.RowKit Go.Lib

theorem digit_byte (u : Nat) (h : u < 10) : (UInt8.ofNat (48 + u)).toNat = 48 + u := by rw [UInt8.toNat_ofNat']; omega
theorem dd_all (u : Nat) : (decDigits u).all isDig = true := by
  induction u using Nat.strongRecOn with
  | _ u ih =>
    rw [decDigits]
    split
    · rename_i h; simp only [List.all_cons, List.all_nil, Bool.and_true]; rw [isDig_iff, digit_byte u h]; omega
    · rw [List.all_append, ih (u / 10) (by omega)]
      simp only [List.all_cons, List.all_nil, Bool.and_true, Bool.true_and]; rw [isDig_iff, digit_byte _ (by omega)]; omega
theorem dd_dv (u : Nat) : dv (decDigits u) = u := by
  induction u using Nat.strongRecOn with
  | _ u ih =>
    rw [decDigits]
    split
    · rename_i h; simp only [dv, List.foldl_cons, List.foldl_nil, digit_byte u h]; omega
    · rw [dv_snoc, ih (u / 10) (by omega), digit_byte _ (by omega)]; omega
theorem dd_ne (u : Nat) : decDigits u ≠ [] := by
  rw [decDigits]; split <;> simp
theorem dd_head (u : Nat) (h : 1 ≤ u) : (decDigits u).getD 0 0 ≠ 48 := by
  induction u using Nat.strongRecOn with
  | _ u ih =>
    rw [decDigits]
    split
    · rename_i h'
      simp only [List.getD_cons_zero]
      intro e
      have := congrArg UInt8.toNat e
      rw [digit_byte u h'] at this
      have e48 : (48 : UInt8).toNat = 48 := rfl
      omega
    · have := ih (u / 10) (by omega) (by omega)
      have hn := dd_ne (u / 10)
      cases hd : decDigits (u / 10) with
      | nil => exact absurd hd hn
      | cons c l => rw [hd] at this; simpa using this
theorem dd_plain (u : Nat) : plainB (decDigits u) = true := by
  unfold plainB
  rw [dd_all]
  have hn := dd_ne u
  have he : (decDigits u).isEmpty = false := by
    cases h : decDigits u with
    | nil => exact absurd h hn
    | cons a l => rfl
  rw [he]
  by_cases h : u < 10
  · rw [show decDigits u = [UInt8.ofNat (48 + u)] by rw [decDigits, dif_pos h]]; rfl
  · have hh := dd_head u (by omega)
    have hb : ((decDigits u).getD 0 0 != 48) = true := by rw [bne_iff_ne]; exact hh
    rw [hb]; simp
theorem dd_not45 (u : Nat) : neg (decDigits u) = false := by
  have ha := dd_all u
  unfold neg hasPrefix
  cases h : decDigits u with
  | nil => rfl
  | cons c l =>
    rw [h] at ha
    simp only [List.all_cons, Bool.and_eq_true] at ha
    have hc := isDig_iff.1 ha.1
    have : (45 : UInt8) ≠ c := by intro e; rw [← e] at hc; have e45 : (45 : UInt8).toNat = 45 := rfl; omega
    simp [List.isPrefixOf, this]
theorem back_v (n : Int) (h0 : -9223372036854775808 ≤ n) (h1 : n ≤ 9223372036854775807) :
    readV (itoa n) (-9223372036854775808) 9223372036854775807 = n ∧ readE (itoa n) (-9223372036854775808) 9223372036854775807 = 0 := by
  by_cases hp : 0 ≤ n
  · obtain ⟨u, rfl⟩ : ∃ u : Nat, n = u := ⟨n.toNat, by omega⟩
    rw [itoa_nonneg]
    have hb : body (decDigits u) = decDigits u := by unfold body trimPrefix; rw [show hasPrefix (decDigits u) [45] = false from dd_not45 u]; rfl
    have hf : form (decDigits u) = true := by unfold form; rw [hb, dd_plain, dd_not45]; rfl
    have hv : valB (body (decDigits u)) (neg (decDigits u)) = u := by rw [hb, dd_not45]; simp [valB, dd_dv]
    have hfit : fits (body (decDigits u)) (neg (decDigits u)) = true := by rw [hb, dd_not45]; unfold fits; rw [dd_dv]; simp; omega
    have ho : okR (decDigits u) (-9223372036854775808) 9223372036854775807 = true := by
      unfold okR; rw [hv, hfit]; simp only [Bool.true_and, Bool.and_eq_true, decide_eq_true_eq]; omega
    unfold readV readE
    rw [hf, ho, hv]; exact ⟨rfl, rfl⟩
  · obtain ⟨u, rfl⟩ : ∃ u : Nat, n = -(u : Int) := ⟨n.natAbs, by omega⟩
    have hu : 1 ≤ u := by omega
    rw [itoa_neg u hu]
    have hn : neg (45 :: decDigits u) = true := by unfold neg hasPrefix; simp [List.isPrefixOf]
    have hb : body (45 :: decDigits u) = decDigits u := by unfold body trimPrefix; rw [show hasPrefix (45 :: decDigits u) [45] = true from hn]; rfl
    have hz : (decDigits u == [48]) = false := by
      rw [beq_eq_false_iff_ne]; intro e
      have := congrArg dv e
      rw [dd_dv] at this
      have h48 : dv [48] = 0 := by decide +kernel
      omega
    have hf : form (45 :: decDigits u) = true := by unfold form; rw [hb, dd_plain, hn, hz]; rfl
    have hv : valB (body (45 :: decDigits u)) (neg (45 :: decDigits u)) = -(u : Int) := by rw [hb, hn]; simp [valB, dd_dv]
    have hfit : fits (body (45 :: decDigits u)) (neg (45 :: decDigits u)) = true := by rw [hb, hn]; unfold fits; rw [dd_dv]; simp; omega
    have ho : okR (45 :: decDigits u) (-9223372036854775808) 9223372036854775807 = true := by
      unfold okR; rw [hv, hfit]; simp only [Bool.true_and, Bool.and_eq_true, decide_eq_true_eq]; omega
    unfold readV readE
    rw [hf, ho, hv]; exact ⟨rfl, rfl⟩

/-- The same number many times. -/
theorem al_less (a : Int) (t : Nat) (h : al (a * (t + 1 : Nat)) = true) : al (a * t) = true := by
  rw [al_iff] at *
  have e : a * ((t + 1 : Nat) : Int) = a * t + a := by rw [Int.natCast_add, Int.mul_add]; simp
  by_cases ha : 0 ≤ a
  · have := Int.mul_nonneg ha (show (0 : Int) ≤ t by omega); omega
  · have := Int.mul_nonneg (show 0 ≤ -a by omega) (show (0 : Int) ≤ t by omega)
    rw [Int.neg_mul] at this; omega
theorem sum_rep (a : Int) (ha : al a = true) (t : Nat) : sumO (List.replicate t a) = if al (a * t) then some (a * t) else none := by
  induction t with
  | zero => simp [sumO, al]
  | succ t ih =>
    rw [List.replicate_succ', sumO_snoc, ih]
    have e : a * ((t + 1 : Nat) : Int) = a * t + a := by rw [Int.natCast_add, Int.mul_add]; simp
    cases h1 : al (a * t)
    · have h2 : al (a * ((t + 1 : Nat) : Int)) = false := by
        cases h2 : al (a * ((t + 1 : Nat) : Int))
        · rfl
        · rw [al_less a t h2] at h1; cases h1
      rw [h2]; rfl
    · cases h2 : al (a * ((t + 1 : Nat) : Int))
      · rw [e] at h2
        simp only [if_true]
        rw [step_no (by rw [h1, ha, h2]; rfl)]; rfl
      · rw [e] at h2 ⊢
        simp only [if_true]
        rw [step_yes (by rw [h1, ha, h2]; rfl)]

theorem read_back (n : Int) (w : World) (h0 : -9223372036854775808 ≤ n) (h1 : n ≤ 9223372036854775807) :
    Calls Tryd.prog 62 #[.string (strOf (itoa n)), .int .i64 (-9223372036854775808), .int .i64 9223372036854775807] w fun e w' => e = .returned (.tuple #[.int .i64 n, .int .i64 0]) ∧ Below w.heap.size w w' := by
  have hl := itoa_length_le n h0 h1
  have hb := back_v n h0 h1
  refine (read_any (strOf (itoa n)) _ _ w (by rw [strOf_size]; omega)).mono fun e w' ⟨he, hw⟩ => ⟨?_, hw⟩
  rw [he, strOf_list, hb.1, hb.2]; rfl
/-- A row of the call's own, all one number, summed. -/
theorem ints_row (a : Int) (t b : Nat) (w : World) (h : w.rowIs b 2 t (fun j => if j < t then .int .i64 a else .int .i64 0)) : Ints w w.heap.size (some ⟨b, 0, none⟩) (List.replicate t a) := by
  right
  refine ⟨b, 0, rfl, h.lt, fun j hj => ?_⟩
  have hj' : j < t := by simpa using hj
  have hc := h.cell hj'
  rw [if_pos hj'] at hc
  rw [Nat.zero_add, hc]
  simp [List.getD_eq_getElem?_getD, hj']
theorem rep_range (a : Int) (t : Nat) (a0 : -9223372036854775808 ≤ a) (a1 : a ≤ 9223372036854775807) (j : Nat) : -9223372036854775808 ≤ (List.replicate t a).getD j 0 ∧ (List.replicate t a).getD j 0 ≤ 9223372036854775807 := by
  rw [List.getD_eq_getElem?_getD, List.getElem?_replicate]
  split <;> simp <;> omega
end Go.Proofs.YtfoabgjcndgflaaDoor.L1
