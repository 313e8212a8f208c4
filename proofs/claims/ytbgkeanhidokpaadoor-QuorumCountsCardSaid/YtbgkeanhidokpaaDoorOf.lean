/-
  The document's set of some numbers: contract; the slice is left as it was.
-/
import Derived.Test.YtbgkeanhidokpaaDoorRefSets
set_option linter.unusedSimpArgs false
set_option linter.unusedVariables false
namespace Go.Proofs.YtbgkeanhidokpaaDoor
open Go.RowKit Go.Lib

theorem mk_lt {L : List Nat} (h : ∀ i ∈ L, i < 32) : mk L < 4294967296 := by
  refine Nat.lt_pow_two_of_testBit (n := 32) _ fun i hi => ?_
  rw [mk_testBit, decide_eq_false_iff_not]
  intro hm
  have := h i hm
  omega
/-- One bit more of a number that is read from above. -/
theorem mk_step (L : List Nat) (j : Nat) : mk L / 2 ^ j = 2 * (mk L / 2 ^ (j + 1)) + (if j ∈ L then 1 else 0) := by
  have h := mk_testBit L j
  rw [Nat.testBit_eq_decide_div_mod_eq] at h
  have e : mk L / 2 ^ (j + 1) = mk L / 2 ^ j / 2 := by rw [Nat.pow_succ, Nat.div_div_eq_div_mul]
  rw [e]
  by_cases hj : j ∈ L
  · rw [if_pos hj]
    have : mk L / 2 ^ j % 2 = 1 := by simpa [hj] using h
    omega
  · rw [if_neg hj]
    have : mk L / 2 ^ j % 2 = 0 := by simpa [hj] using h
    omega
def bit (b : Prop) [Decidable b] : Nat := if b then 1 else 0
theorem bit_le (b : Prop) [Decidable b] : bit b ≤ 1 := by unfold bit; split <;> omega
set_option maxHeartbeats 1000000 in
set_option maxRecDepth 100000 in
theorem of_any (B : Nat) (A : Option Addr) (c : Nat) (L : List Nat) (w : World) (hr : Reads w B 1 A L.length (natCells L)) (hl : L.length ≤ 1000) (hL : ∀ i ∈ L, i < 32) :
    Calls Tryd.prog 24 #[.slice A L.length c] w fun e w' => e = .returned (.int .u32 (mk L : Nat)) ∧ w = w' := by
  have hM := mk_lt hL
  go_enter Tryd.func24, Tryd.ntmps24
  go_wp2
  go_loop [3, 4] (fun a b => ∃ j s : Nat, a = .int .u32 s ∧ b = .int .i64 ((j : Int) - 1) ∧ j ≤ 32 ∧ s = mk L / 2 ^ j) (fun _ b => (intOf b + 1).toNat)
  case atStart => exact ⟨32, 0, rfl, rfl, Nat.le_refl _, (Nat.div_eq_of_lt hM).symm⟩
  case round =>
    obtain ⟨j, s, rfl, rfl, hj, hs⟩ := hrel
    rcases j with _ | j
    · have hs' : s = mk L := by rw [hs, Nat.pow_zero, Nat.div_one]
      have HS := Lib.hid hs'
      clear hs hs'
      go_wp2_with fail
      go_ret
      exact ⟨by rw [HS.out]; rfl, rfl⟩
    · have hst := mk_step L j
      rw [← hs] at hst
      have hle : mk L / 2 ^ j ≤ mk L := Nat.div_le_self _ _
      have hs31 : 2 * s < 4294967296 := by split at hst <;> omega
      have e1 : ((j + 1 : Nat) : Int) - 1 = (j : Int) := by omega
      rw [e1]
      have HST := Lib.hid hst
      have HS := Lib.hid hs
      have HM := Lib.hid hM
      clear hst hs hM hle e1
      go_wp2_with fail
      go_loop [3, 5] (fun a b => ∃ i y : Nat, a = .int .u32 y ∧ b = .int .i64 i ∧ i ≤ L.length ∧ y = 2 * s + bit (j ∈ L.take i)) (fun _ b => L.length - (intOf b).toNat)
      case atStart => exact ⟨0, 2 * s, by rw [Nat.mul_comm]; simp, rfl, Nat.zero_le _, by simp [bit]⟩
      case round =>
        obtain ⟨i, y, rfl, rfl, hi, hy⟩ := hrel
        have hb := bit_le (j ∈ L.take i)
        by_cases hlt : i < L.length
        · obtain ⟨ad, u, rfl, _, hx, hc⟩ := hr.at_ hlt
          obtain rfl := natCell_at hlt hx
          obtain ⟨x, hz⟩ : ∃ x, x = L[i] := ⟨_, rfl⟩
          have htk : L.take (i + 1) = L.take i ++ [x] := by rw [hz, List.take_succ_eq_append_getElem hlt]
          rw [← hz] at hc
          have HT := Lib.hid htk
          clear hx hz htk
          by_cases hk : x = j
          · have hk' : ((x : Int) == (j : Int)) = true := by simp; omega
            by_cases hin : j ∈ L.take i
            · have hy1 : y = 2 * s + 1 := by rw [hy]; unfold bit; rw [if_pos hin]
              have he : ((y : Int) % 2 == 0) = false := by simp; omega
              have HI := Lib.hid hin
              have HK := Lib.hid hk
              have HY := Lib.hid hy1
              clear hy hin hk hb hy1
              go_wp2_with fail
              go_round
              case rel => exact ⟨i + 1, y, rfl, by go_num, by omega, by rw [HT.out]; unfold bit; rw [if_pos (List.mem_append_left _ HI.out)]; exact HY.out⟩
              case measure => simp [intOf]; omega
            · have hy1 : y = 2 * s := by rw [hy]; unfold bit; rw [if_neg hin]; rfl
              have he : ((y : Int) % 2 == 0) = true := by simp; omega
              have hy2 : y + 1 < 4294967296 := by omega
              have HK := Lib.hid hk
              have HY := Lib.hid hy1
              clear hy hin hk hb hy1
              go_wp2_with fail
              go_round
              case rel => exact ⟨i + 1, y + 1, rfl, by go_num, by omega, by rw [HT.out]; unfold bit; rw [if_pos (List.mem_append_right _ (by simp [HK.out]))]; have := HY.out; omega⟩
              case measure => simp [intOf]; omega
          · have hk' : ((x : Int) == (j : Int)) = false := by simp; omega
            have HK := Lib.hid hk
            have HY := Lib.hid hy
            clear hy hk hb
            go_wp2_with fail
            go_round
            case rel =>
              refine ⟨i + 1, y, rfl, by go_num, by omega, ?_⟩
              rw [HT.out, HY.out]
              have hk := HK.out
              have hk2 : ¬ j = x := fun e => hk e.symm
              unfold bit
              simp [List.mem_append, hk2]
            case measure => simp [intOf]; omega
        · rw [List.take_of_length_le (by omega)] at hy
          have HY := Lib.hid hy
          clear hy hb
          go_wp2_with fail
          go_round
          case rel => exact ⟨j, y, rfl, by go_num, by omega, by rw [HST.out, HY.out]; rfl⟩
          case measure => simp [intOf]
end Go.Proofs.YtbgkeanhidokpaaDoor
