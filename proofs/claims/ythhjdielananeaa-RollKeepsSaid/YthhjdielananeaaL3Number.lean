/-
  The number at the beginning of any bytes.
-/
import Derived.Test.YthhjdielananeaaL3Clone
import Derived.Deep.QuietTactic
import Derived.BigQuiet
set_option linter.unusedSimpArgs false
set_option linter.unusedVariables false
namespace Go.Proofs.Ythhjdielananeaa.L3
open Go.RowKit Go.Lib

def numberPost (r : Nat × Nat × Nat) (w : World) (e : Ending) (w' : World) : Prop := e = .returned (.tuple #[.int .i64 r.1, .int .i64 r.2.1, .int .i64 r.2.2]) ∧ w = w'

theorem bits_or_i64_nat (a b : Nat) (ha : a < 9223372036854775808) (hb : b < 9223372036854775808) : bits .or .i64 (a : Int) (b : Int) = ((a ||| b : Nat) : Int) := by
  have hx : a ||| b < 2 ^ 63 := Nat.or_lt_two_pow (by omega) (by omega)
  have h1 : (BitVec.ofInt 64 (a : Int)).toNat = a := by
    rw [BitVec.ofInt_natCast, BitVec.toNat_ofNat]; exact Nat.mod_eq_of_lt (by omega)
  have h2 : (BitVec.ofInt 64 (b : Int)).toNat = b := by
    rw [BitVec.ofInt_natCast, BitVec.toNat_ofNat]; exact Nat.mod_eq_of_lt (by omega)
  show IntKind.i64.wrap ((BitVec.ofInt 64 (a : Int) ||| BitVec.ofInt 64 (b : Int)).toNat : Int) = _
  rw [BitVec.toNat_or, h1, h2, IntKind.wrap_i64]
  omega
theorem pow128 (k : Nat) : 128 ^ k = 2 ^ (7 * k) := by rw [Nat.pow_mul]
theorem pow128_8 {k : Nat} (h : k ≤ 8) : 128 ^ k ≤ 72057594037927936 := Nat.le_trans (Nat.pow_le_pow_right (by omega) h) (by omega)
theorem digit_lt {k b : Nat} (h : k ≤ 8) (hb : b < 128) : b * 128 ^ k ≤ 9151314442816847872 := Nat.le_trans (Nat.mul_le_mul (show b ≤ 127 by omega) (pow128_8 h)) (by omega)
/-- One digit more. -/
theorem or_digit (v k b : Nat) (hk : k ≤ 8) (hv : v < 128 ^ k) (hb : b < 128) : bits .or .i64 (v : Int) (wrap64 ((b : Int) * 2 ^ (7 * k))) = ((v + b * 128 ^ k : Nat) : Int) := by
  have h1 := pow128_8 hk
  have h2 := digit_lt hk hb
  have hw : wrap64 ((b : Int) * 2 ^ (7 * k)) = ((b * 128 ^ k : Nat) : Int) := by
    have e : (b : Int) * 2 ^ (7 * k) = ((b * 128 ^ k : Nat) : Int) := by rw [pow128]; simp
    rw [e]; unfold wrap64; omega
  rw [hw, bits_or_i64_nat v (b * 128 ^ k) (by omega) (by omega)]
  have e2 := Nat.two_pow_add_eq_or_of_lt (i := 7 * k) (b := v) (by rw [← pow128]; exact hv) b
  rw [← pow128] at e2
  rw [Nat.or_comm, Nat.mul_comm b, ← e2, Nat.add_comm]

set_option maxHeartbeats 1000000 in
set_option maxRecDepth 100000 in
theorem number_any (B : Nat) (A : Option Addr) (n c : Nat) (l : List UInt8) (w : World) (h : Reads w B 1 A n (byteCells l)) (hl : n ≤ 1000000000) :
    Calls Try.prog 67 #[.slice A n c] w (numberPost (rdN 0 0 l) w) := by
  have hn : l.length = n := by have := h.1; simpa [byteCells] using this
  go_enter Try.func67, Try.ntmps67
  go_wp2
  go_loop [5, 10] (fun a i => ∃ (k v : Nat), a = .int .i64 v ∧ i = .int .i64 k ∧ k ≤ n ∧ k ≤ 9 ∧ v < 128 ^ k ∧ rdN 0 0 l = rdN k v (l.drop k)) (fun _ i => n - (intOf i).toNat)
  case atStart => exact ⟨0, 0, rfl, rfl, Nat.zero_le _, by omega, by omega, rfl⟩
  case round =>
    obtain ⟨k, v, rfl, rfl, hk, hk9, hv, hr⟩ := hrel
    by_cases hlt : k < n
    · obtain ⟨ad, u, rfl, _, hx, hc⟩ := h.at_ hlt
      have hz : u = .int .u8 (l[k].toNat : Int) := by
        simp only [byteCells, List.getElem?_map, List.getElem?_eq_getElem (show k < l.length by omega), Option.map_some, Option.some.injEq] at hx
        exact hx.symm
      subst hz
      obtain ⟨x, hz⟩ : ∃ x, x = l[k] := ⟨_, rfl⟩
      have hd : l.drop k = x :: l.drop (k + 1) := by rw [hz]; exact List.drop_eq_getElem_cons (by omega)
      rw [← hz] at hc
      rw [hd] at hr
      have HR := Lib.hid hr
      clear hx hr hz hd
      have hx8 : x.toNat < 256 := x.toNat_lt
      have hx0 : (0 : Int) ≤ x.toNat := by omega
      have hx1 : (x.toNat : Int) ≤ 255 := by omega
      by_cases h9 : k = 9
      · have e : rdN 0 0 l = (0, 0, 31) := by rw [HR.out, h9, rdN]; rfl
        have HE := Lib.hid e
        have h9' : ((k : Int) == 9) = true := by simp; omega
        clear e h9 HR hv
        go_wp2_with fail
        go_ret3
        exact ⟨by rw [HE.out]; rfl, rfl⟩
      · have h9' : ((k : Int) == 9) = false := by simp; omega
        have hor := or_digit v k (x.toNat % 128) (by omega) hv (by omega)
        obtain ⟨y, hy⟩ : ∃ y, y = v + x.toNat % 128 * 128 ^ k := ⟨_, rfl⟩
        rw [← hy] at hor
        have hor2 : bits .or .i64 (v : Int) (wrap64 ((x.toNat : Int) % 128 * 2 ^ (7 * k))) = (y : Int) := by rw [← hor]; simp
        have hyb : y < 128 ^ (k + 1) := by
          have h1 : x.toNat % 128 * 128 ^ k ≤ 127 * 128 ^ k := Nat.mul_le_mul (by omega) (Nat.le_refl _)
          rw [Nat.pow_succ]; omega
        have HY := Lib.hid hy
        have HYB := Lib.hid hyb
        clear hor hy hyb
        by_cases h128 : 128 ≤ x.toNat
        · have h128' : 128 ≤ (x.toNat : Int) := by omega
          have e : rdN 0 0 l = rdN (k + 1) y (l.drop (k + 1)) := by rw [HR.out, rdN, if_neg h9, if_pos h128, HY.out]
          have HE := Lib.hid e
          clear e
          go_wp2_with fail
          go_round
          case rel => exact ⟨k + 1, y, rfl, by go_num, by omega, by omega, HYB.out, HE.out⟩
          case measure => simp [intOf]; omega
        · have h128' : ¬ 128 ≤ (x.toNat : Int) := by omega
          have em : x.toNat % 128 = x.toNat := by omega
          by_cases h0 : x.toNat = 0 ∧ 0 < k
          · have e : rdN 0 0 l = (0, 0, 31) := by rw [HR.out, rdN, if_neg h9, if_neg h128, if_pos (Or.inl h0)]
            have HE := Lib.hid e
            obtain ⟨h0, hk0⟩ := h0
            have h0' : ((x.toNat : Int) == 0) = true := by simp; omega
            have hk0' : decide ((0 : Int) < (k : Int)) = true := by simp; omega
            clear e h0
            go_wp2_with fail
            go_ret3
            exact ⟨by rw [HE.out]; rfl, rfl⟩
          · have e : rdN 0 0 l = if 4611686018427387904 < y then (0, 0, 31) else (y, k + 1, 0) := by
              rw [HR.out, rdN, if_neg h9, if_neg h128, HY.out, em]
              by_cases hy : 4611686018427387904 < v + x.toNat * 128 ^ k
              · rw [if_pos hy, if_pos (Or.inr hy)]
              · rw [if_neg hy, if_neg (by rintro (h | h) <;> contradiction)]
            have HE := Lib.hid e
            clear e
            by_cases hx : x.toNat = 0
            · have hk0 : k = 0 := by omega
              have h0' : ((x.toNat : Int) == 0) = true := by simp; omega
              have hk0' : decide (0 < k) = false := by simp; omega
              clear hx hk0 h0
              by_cases hy : 4611686018427387904 < y
              · have hok := okN_not (n := (y : Int)) (by omega)
                go_wp2_with (go_at_call 51; refine (allowed_any _ _).mono ?_; rintro e w1 ⟨rfl, rfl⟩)
                go_ret3
                exact ⟨by rw [HE.out, if_pos hy]; rfl, rfl⟩
              · have hok := okN_mk (n := (y : Int)) (by omega) (by omega)
                go_wp2_with (go_at_call 51; refine (allowed_any _ _).mono ?_; rintro e w1 ⟨rfl, rfl⟩)
                go_ret3
                exact ⟨by rw [HE.out, if_neg hy]; rfl, rfl⟩
            · have h0' : ((x.toNat : Int) == 0) = false := by simp; omega
              clear hx h0
              by_cases hy : 4611686018427387904 < y
              · have hok := okN_not (n := (y : Int)) (by omega)
                go_wp2_with (go_at_call 51; refine (allowed_any _ _).mono ?_; rintro e w1 ⟨rfl, rfl⟩)
                go_ret3
                exact ⟨by rw [HE.out, if_pos hy]; rfl, rfl⟩
              · have hok := okN_mk (n := (y : Int)) (by omega) (by omega)
                go_wp2_with (go_at_call 51; refine (allowed_any _ _).mono ?_; rintro e w1 ⟨rfl, rfl⟩)
                go_ret3
                exact ⟨by rw [HE.out, if_neg hy]; rfl, rfl⟩
    · have e : rdN 0 0 l = (0, 0, 30) := by rw [hr, List.drop_eq_nil_of_le (by omega)]; rfl
      have HE := Lib.hid e
      clear e hr
      go_wp2_with fail
      go_ret3
      exact ⟨by rw [HE.out]; rfl, rfl⟩
end Go.Proofs.Ythhjdielananeaa.L3
