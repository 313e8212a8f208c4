/-
  Are they replicas; the document's answers on sets: contracts.
-/
import Derived.Test.YtjkfogjhakcnfaaDoorList
import Derived.Deep.RegionWith
import Derived.Deep.QuietTactic
set_option linter.unusedSimpArgs false
set_option linter.unusedVariables false
namespace Go.Proofs.YtjkfogjhakcnfaaDoor
open Go.RowKit Go.Lib

theorem Owns.keep {B : Nat} {v : Value} {l : List Nat} {W0 w w' : World} (h : Owns B v l W0 w) (hb : Below w.heap.size w w') : Owns B v l W0 w' := by
  obtain ⟨⟨hl, ho⟩, hB, hs⟩ := h
  refine ⟨⟨hl, ?_⟩, hB.trans (hb.mono hs), Nat.le_trans hs hb.size⟩
  rcases ho with h | ⟨g, cap, cur, fz, rfl, h1, hh, h2⟩
  · exact Or.inl h
  · exact Or.inr ⟨g, cap, cur, fz, rfl, h1, (hb.block g (Array.getElem?_eq_some_iff.1 hh).1).trans hh, h2⟩
theorem Owns.below {B : Nat} {v : Value} {l : List Nat} {w w' : World} (h : Owns B v l w w') : Below B w w' := h.2.1
theorem natCell_at {l : List Nat} {k : Nat} {u : Value} (hk : k < l.length) (h : (natCells l)[k]? = some u) : u = .int .i64 (l[k] : Int) := by
  simp only [natCells, List.getElem?_map, List.getElem?_eq_getElem hk, Option.map_some, Option.some.injEq] at h
  exact h.symm
theorem bts_len {n : Nat} (h : n < 4294967296) : (bts 0 n).length ≤ 32 := by rw [bts_length]; exact cnt_le 32 n h
theorem has_iff {n : Nat} {k : Int} (hn : n < 4294967296) : hasV n k = true ↔ ∃ j ∈ bts 0 n, (j : Int) = k := by
  unfold hasV fitsV
  simp only [Bool.and_eq_true, decide_eq_true_eq]
  constructor
  · rintro ⟨⟨h0, h1⟩, h⟩
    exact ⟨k.toNat, (mem_bts n 0 _).2 ⟨by omega, by simpa using h⟩, by omega⟩
  · rintro ⟨j, hj, rfl⟩
    have := bts_lt (k := 32) hn hj
    have hj := ((mem_bts n 0 j).1 hj).2
    exact ⟨⟨by omega, by omega⟩, by simpa using hj⟩
set_option maxHeartbeats 1000000 in
set_option maxRecDepth 100000 in
theorem refhas_any (n : Nat) (k : Int) (w : World) (hn : n < 4294967296) : Calls Tryd.prog 46 #[.int .u32 n, .int .i64 k] w fun e w' => e = .returned (.bool (hasV n k)) ∧ Below w.heap.size w w' := by
  have hl := bts_len hn
  have HI := Lib.hid (has_iff (k := k) hn)
  obtain ⟨L, hL⟩ : ∃ L, L = bts 0 n := ⟨_, rfl⟩
  have hr := reflist_any n
  rw [← hL] at hl hr HI
  clear hL
  go_enter Tryd.func46, Tryd.ntmps46
  go_wp2_with (go_at_call 24; refine (hr _ hn).mono ?_; rintro e w1 ⟨v1, rfl, ho1⟩; obtain ⟨A1, c1, rfl, hr1, hc1⟩ := ho1.form)
  go_loop [6] (fun a => ∃ i : Nat, a = .int .i64 i ∧ i ≤ L.length ∧ ∀ j ∈ L.take i, (j : Int) ≠ k) (fun a => L.length - (intOf a).toNat)
  case atStart => exact ⟨0, rfl, Nat.zero_le _, fun j hj => by simp at hj⟩
  case round =>
    obtain ⟨i, rfl, hi, hno⟩ := hrel
    by_cases hlt : i < L.length
    · obtain ⟨ad, u, rfl, _, hx, hc⟩ := hr1.at_ hlt
      obtain rfl := natCell_at hlt hx
      obtain ⟨x, hz⟩ : ∃ x, x = L[i] := ⟨_, rfl⟩
      have htk : L.take (i + 1) = L.take i ++ [x] := by rw [hz, List.take_succ_eq_append_getElem hlt]
      have hmem : x ∈ L := by rw [hz]; exact List.getElem_mem hlt
      rw [← hz] at hc
      have HT := Lib.hid htk
      have HN := Lib.hid hno
      have HM := Lib.hid hmem
      clear hx hz htk hno hmem
      by_cases hk : (x : Int) = k
      · have hk' : ((x : Int) == k) = true := by simp; exact hk
        have hv : hasV n k = true := HI.out.2 ⟨x, HM.out, hk⟩
        have HK := Lib.hid hk
        clear hk
        go_wp2_with fail
        go_ret
        exact ⟨rfl, ho1.below⟩
      · have hk' : ((x : Int) == k) = false := by simp; exact hk
        have HK := Lib.hid hk
        clear hk
        go_wp2_with fail
        go_round
        case rel =>
          refine ⟨i + 1, by go_num, by omega, fun j hj => ?_⟩
          rw [HT.out, List.mem_append] at hj
          rcases hj with hj | hj
          · exact HN.out j hj
          · simp at hj; subst hj; exact HK.out
        case measure => simp [intOf]; omega
    · rw [List.take_of_length_le (by omega)] at hno
      have hv : hasV n k = false := by
        rw [← Bool.not_eq_true, HI.out]
        rintro ⟨j, hj, he⟩
        exact hno j hj he
      have HN := Lib.hid hno
      clear hno
      go_wp2_with fail
      go_ret
      exact ⟨rfl, ho1.below⟩
/-- Are they replicas? -/
def checkV (f : Int) (n : Nat) : Int := if isF f = true then (if n < 2 ^ (more 3 f).toNat then 0 else 40) else 1
theorem check_iff {n m : Nat} : n < 2 ^ m ↔ ∀ i ∈ bts 0 n, i < m := by
  constructor
  · intro h i hi; exact bts_lt h hi
  · intro h
    apply Nat.lt_pow_two_of_testBit
    intro i hi
    rw [← Bool.not_eq_true]
    intro ht
    have := h i ((mem_bts n 0 i).2 ⟨by omega, by simpa using ht⟩)
    omega
theorem andNot_zero (n m : Nat) (hn : n < 4294967296) (hm : m ≤ 10) : (n &&& (4294967295 - (2 ^ m - 1)) = 0) ↔ n < 2 ^ m := by
  have h := nat_midmask 32 m n (by omega)
  have hp := Nat.two_pow_pos m
  have e : 4294967295 - (2 ^ m - 1) = 2 ^ 32 - 2 ^ m := by omega
  rw [e, h, Nat.mod_eq_of_lt (show n < 2 ^ 32 by omega)]
  constructor
  · intro h
    rcases Nat.mul_eq_zero.1 h with h | h
    · rcases Nat.lt_or_ge n (2 ^ m) with h1 | h1
      · exact h1
      · have := Nat.div_pos h1 hp; omega
    · omega
  · intro h; rw [Nat.div_eq_of_lt h, Nat.zero_mul]
theorem check_any (f : Int) (n : Nat) (w : World) (hn : n < 4294967296) : Calls Tryd.prog 22 #[.int .i64 f, .int .u32 n] w fun e w' => e = .returned (.int .i64 (checkV f n)) ∧ w = w' := by
  rcases Bool.eq_false_or_eq_true (isF f) with h | h
  · obtain ⟨m, hm, hm10⟩ := more_is f
    have hv : checkV f n = if n < 2 ^ m then 0 else 40 := by unfold checkV; rw [if_pos h, hm, Int.toNat_natCast]
    have hf := full_any f
    have hp := pow_lt32 (k := m) (by omega)
    have hand := u32_andNot_nat n (2 ^ m - 1) hn (by omega)
    have hz := andNot_zero n m hn hm10
    rw [hm, Int.toNat_natCast] at hf
    obtain ⟨z, hzz⟩ : ∃ z, z = n &&& (4294967295 - (2 ^ m - 1)) := ⟨_, rfl⟩
    rw [← hzz] at hand hz
    obtain ⟨y, hy⟩ : ∃ y, y = 2 ^ m - 1 := ⟨_, rfl⟩
    rw [← hy] at hand hf
    have HV := Lib.hid hv
    have HZ := Lib.hid hz
    have HF := Lib.hid hf
    clear hv hz hf hzz hy hp hm
    by_cases h0 : z = 0
    · subst h0
      have hlt : n < 2 ^ m := HZ.out.1 rfl
      have HL := Lib.hid hlt
      clear hlt
      go_enter Tryd.func22, Tryd.ntmps22
      go_wp2_with (first
        | (go_at_call 38; refine (allowed_any _ _).mono ?_; rintro e w1 ⟨rfl, rfl⟩)
        | (go_at_call 27; refine (HF.out _).mono ?_; rintro e w1 ⟨rfl, rfl⟩))
      go_ret
      exact ⟨by rw [HV.out, if_pos HL.out]; rfl, rfl⟩
    · have hne : ((z : Int) == 0) = false := by simp; omega
      have hlt : ¬ n < 2 ^ m := fun h => h0 (HZ.out.2 h)
      have HL := Lib.hid hlt
      clear hlt
      go_enter Tryd.func22, Tryd.ntmps22
      go_wp2_with (first
        | (go_at_call 38; refine (allowed_any _ _).mono ?_; rintro e w1 ⟨rfl, rfl⟩)
        | (go_at_call 27; refine (HF.out _).mono ?_; rintro e w1 ⟨rfl, rfl⟩))
      go_ret
      exact ⟨by rw [HV.out, if_neg HL.out]; rfl, rfl⟩
  · have hv : checkV f n = 1 := by unfold checkV; rw [if_neg (by rw [h]; decide)]
    go_enter Tryd.func22, Tryd.ntmps22
    go_wp2_with (go_at_call 38; refine (allowed_any _ _).mono ?_; rintro e w1 ⟨rfl, rfl⟩)
    go_ret
    exact ⟨by rw [hv]; rfl, rfl⟩
set_option maxHeartbeats 1000000 in
set_option maxRecDepth 100000 in
theorem refcheck_any (f : Int) (n : Nat) (w : World) (hn : n < 4294967296) (h0 : -9223372036854775808 ≤ f) (h1 : f ≤ 9223372036854775807) : Calls Tryd.prog 23 #[.int .i64 f, .int .u32 n] w fun e w' => e = .returned (.int .i64 (checkV f n)) ∧ Below w.heap.size w w' := by
  have ha := fun w => refall_any f w h0 h1
  rcases Bool.eq_false_or_eq_true (isF f) with h | h
  · obtain ⟨m, hm, hm10⟩ := more_is f
    have hv : checkV f n = if n < 2 ^ m then 0 else 40 := by unfold checkV; rw [if_pos h, hm, Int.toNat_natCast]
    have hm0 : m ≠ 0 := by
      have : more 3 f = 3 * f + 1 := by unfold more; rw [if_pos h]
      have := isF_le h
      omega
    have hmz : ((m : Int) == 0) = false := by simp; omega
    rw [hm] at ha
    have hl := bts_len hn
    have hr := reflist_any n
    have HI := Lib.hid (check_iff (n := n) (m := m))
    obtain ⟨L, hL⟩ : ∃ L, L = bts 0 n := ⟨_, rfl⟩
    rw [← hL] at hl hr HI
    have HV := Lib.hid hv
    clear hL hv hm
    go_enter Tryd.func23, Tryd.ntmps23
    go_wp2_with (first
      | (go_at_call 10; refine (ha _).mono ?_; rintro e w1 ⟨rfl, rfl⟩)
      | (go_at_call 24; refine (hr _ hn).mono ?_; rintro e w1 ⟨v1, rfl, ho1⟩; obtain ⟨A1, c1, rfl, hr1, hc1⟩ := ho1.form))
    go_loopw [6] (fun a wr => ∃ i : Nat, a = .int .i64 i ∧ i ≤ L.length ∧ (∀ j ∈ L.take i, j < m) ∧ Below w1.heap.size w1 wr) (fun a _ => L.length - (intOf a).toNat)
    case atStart => exact ⟨0, rfl, Nat.zero_le _, fun j hj => by simp at hj, Below.refl _ _⟩
    case round =>
      obtain ⟨i, rfl, hi, hno, hbr⟩ := hrel
      have hfin := ho1.below.trans (hbr.mono ho1.below.size)
      by_cases hlt : i < L.length
      · obtain ⟨ad, u, rfl, _, hx, hc⟩ := (hr1.below hbr).at_ hlt
        obtain rfl := natCell_at hlt hx
        obtain ⟨x, hz⟩ : ∃ x, x = L[i] := ⟨_, rfl⟩
        have htk : L.take (i + 1) = L.take i ++ [x] := by rw [hz, List.take_succ_eq_append_getElem hlt]
        have hmem : x ∈ L := by rw [hz]; exact List.getElem_mem hlt
        rw [← hz] at hc
        have HT := Lib.hid htk
        have HN := Lib.hid hno
        have HM := Lib.hid hmem
        clear hx hz htk hno hmem
        by_cases hk : m ≤ x
        · have hk' : decide (m ≤ x) = true := by simp; exact hk
          have HK := Lib.hid hk
          clear hk
          go_wp2_with fail
          go_region_with (go_at_call 10; refine (ha _).mono ?_; rintro e w1 ⟨rfl, rfl⟩)
          all_goals
            go_wp2_with fail
            go_ret
            exact ⟨by rw [HV.out, if_neg (fun h => by have := HI.out.1 h x HM.out; have := HK.out; omega)]; rfl, by first | exact hfin | exact hfin.drew⟩
        · have hk' : decide (m ≤ x) = false := by simp; omega
          have HK := Lib.hid hk
          clear hk
          go_wp2_with fail
          go_region_with (go_at_call 10; refine (ha _).mono ?_; rintro e w1 ⟨rfl, rfl⟩)
          all_goals
            go_wp2_with fail
            go_round
            case rel =>
              refine ⟨i + 1, by go_num, by omega, fun j hj => ?_, by first | exact hbr | exact hbr.drew⟩
              rw [HT.out, List.mem_append] at hj
              rcases hj with hj | hj
              · exact HN.out j hj
              · simp at hj; subst hj; have := HK.out; omega
            case measure => simp [intOf]; omega
      · rw [List.take_of_length_le (by omega)] at hno
        have HN := Lib.hid (HI.out.2 hno)
        clear hno
        go_wp2_with fail
        go_ret
        exact ⟨by rw [HV.out, if_pos HN.out]; rfl, hfin⟩
  · have hv : checkV f n = 1 := by unfold checkV; rw [if_neg (by rw [h]; decide)]
    have hm : more 3 f = 0 := by unfold more; rw [if_neg (by rw [h]; decide)]
    rw [hm] at ha
    go_enter Tryd.func23, Tryd.ntmps23
    go_wp2_with (go_at_call 10; refine (ha _).mono ?_; rintro e w1 ⟨rfl, rfl⟩)
    go_ret
    exact ⟨by rw [hv]; rfl, Below.refl _ _⟩
end Go.Proofs.YtjkfogjhakcnfaaDoor
