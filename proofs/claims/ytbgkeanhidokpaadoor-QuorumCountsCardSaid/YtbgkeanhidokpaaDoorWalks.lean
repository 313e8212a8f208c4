/-
  The walks of the laws: how many make what, who leads; two quorums meet; sets; sets and their lists.
-/
import Derived.Test.YtbgkeanhidokpaaDoorAlive
import Derived.BigQuiet
set_option linter.unusedSimpArgs false
set_option linter.unusedVariables false
namespace Go.Proofs.YtbgkeanhidokpaaDoor
open Go.RowKit Go.Lib

set_option maxHeartbeats 1000000 in
set_option maxRecDepth 100000 in
theorem counts_walk (f r : Int) (w : World) (h0 : -9223372036854775808 ≤ f) (h1 : f ≤ 9223372036854775807) (hT : Tab w) :
    Calls Tryd.prog 3 #[.int .i64 f, .int .i64 r] w (alivePost w) := by
  have HT := Lib.hid hT
  obtain ⟨m, hm, hm10⟩ := more_is f
  have ha := all_any f
  have hra := fun w => refall_any f w h0 h1
  have hf := full_any f
  have hcf := cnt_full m
  have hcb := fun w => count_any (2 ^ m - 1) w (by have := pow_lt32 (k := m) (by omega); omega)
  rw [hcf] at hcb
  rw [hm] at ha hra
  rw [hm, Int.toNat_natCast] at hf
  obtain ⟨y, hy⟩ : ∃ y, y = 2 ^ m - 1 := ⟨_, rfl⟩
  rw [← hy] at hf hcb
  have hs := some_any f
  have hq := quorum_any f
  have hrq := fun w => refquorum_any f w h0 h1
  obtain ⟨q, hqq⟩ : ∃ q, q = more 2 f := ⟨_, rfl⟩
  rw [← hqq] at hq hrq
  have hl := leader_any f r
  have hrl := fun w => refleader_any f r w h0 h1
  obtain ⟨l, hll⟩ : ∃ l, l = leadV f r := ⟨_, rfl⟩
  rw [← hll] at hl hrl
  have hmm : 0 < m → more 1 f = f + 1 ∧ -1 ≤ f ∧ f ≤ 3 := by
    intro hp
    rcases Bool.eq_false_or_eq_true (isF f) with h | h
    · have := isF_le h; unfold more; rw [if_pos h]; omega
    · have : more 3 f = 0 := by unfold more; rw [if_neg (by rw [h]; decide)]
      omega
  have hm0 : ¬ 0 < m → more 1 f = 0 := by
    intro hp
    rcases Bool.eq_false_or_eq_true (isF f) with h | h
    · have := isF_le h
      have : more 3 f = 3 * f + 1 := by unfold more; rw [if_pos h]
      omega
    · unfold more; rw [if_neg (by rw [h]; decide)]
  have HH := Lib.hid (And.intro ha (And.intro hra (And.intro hf (And.intro hcb (And.intro hs (And.intro hq (And.intro hrq (And.intro hl hrl))))))))
  clear hT ha hra hf hcb hs hq hrq hl hrl hy hcf hqq hll hm
  by_cases hp : 0 < m
  · obtain ⟨hs1, hf1, hf2⟩ := hmm hp
    clear hmm hm0
    have hp' : decide (0 < m) = true := by simp; omega
    go_enter Tryd.func3, Tryd.ntmps3
    go_wp2_with (first
      | (go_at_call 7; refine (alive_any _ HT.out).mono ?_; rintro e w1 ⟨rfl, hb1⟩)
      | (go_at_call 8; refine (HH.out.2.1 _).mono ?_; rintro e w2 ⟨rfl, rfl⟩)
      | (go_at_call 9; refine (HH.out.1 _).mono ?_; rintro e w2 ⟨rfl, rfl⟩)
      | (go_at_call 14; refine (HH.out.2.2.1 _).mono ?_; rintro e w2 ⟨rfl, rfl⟩)
      | (go_at_call 13; refine (HH.out.2.2.2.1 _).mono ?_; rintro e w2 ⟨rfl, rfl⟩)
      | (go_at_call 12; refine (HH.out.2.2.2.2.1 _).mono ?_; rintro e w2 ⟨rfl, rfl⟩)
      | (go_at_call 10; refine (HH.out.2.2.2.2.2.1 _).mono ?_; rintro e w2 ⟨rfl, rfl⟩)
      | (go_at_call 11; refine (HH.out.2.2.2.2.2.2.1 _).mono ?_; rintro e w2 ⟨rfl, rfl⟩)
      | (go_at_call 15; refine (HH.out.2.2.2.2.2.2.2.1 _).mono ?_; rintro e w2 ⟨rfl, rfl⟩)
      | (go_at_call 16; refine (HH.out.2.2.2.2.2.2.2.2 _).mono ?_; rintro e w2 ⟨rfl, rfl⟩))
    go_ret
    exact ⟨rfl, hb1⟩
  · have hs1 := hm0 hp
    clear hmm hm0
    have hp' : decide (0 < m) = false := by simp; omega
    go_enter Tryd.func3, Tryd.ntmps3
    go_wp2_with (first
      | (go_at_call 7; refine (alive_any _ HT.out).mono ?_; rintro e w1 ⟨rfl, hb1⟩)
      | (go_at_call 8; refine (HH.out.2.1 _).mono ?_; rintro e w2 ⟨rfl, rfl⟩)
      | (go_at_call 9; refine (HH.out.1 _).mono ?_; rintro e w2 ⟨rfl, rfl⟩)
      | (go_at_call 14; refine (HH.out.2.2.1 _).mono ?_; rintro e w2 ⟨rfl, rfl⟩)
      | (go_at_call 13; refine (HH.out.2.2.2.1 _).mono ?_; rintro e w2 ⟨rfl, rfl⟩)
      | (go_at_call 12; refine (HH.out.2.2.2.2.1 _).mono ?_; rintro e w2 ⟨rfl, rfl⟩)
      | (go_at_call 10; refine (HH.out.2.2.2.2.2.1 _).mono ?_; rintro e w2 ⟨rfl, rfl⟩)
      | (go_at_call 11; refine (HH.out.2.2.2.2.2.2.1 _).mono ?_; rintro e w2 ⟨rfl, rfl⟩)
      | (go_at_call 15; refine (HH.out.2.2.2.2.2.2.2.1 _).mono ?_; rintro e w2 ⟨rfl, rfl⟩)
      | (go_at_call 16; refine (HH.out.2.2.2.2.2.2.2.2 _).mono ?_; rintro e w2 ⟨rfl, rfl⟩))
    go_ret
    exact ⟨rfl, hb1⟩

/-- Two quorums have so many in common, and one that isn't bad. -/
theorem meet_plain (m a b bad : Nat) (f : Int) (hm : (m : Int) = 3 * f + 1) (hm32 : m ≤ 32) (ha : a < 4294967296) (hbad : bad < 4294967296)
    (hqa : 2 * f + 1 ≤ (cnt (a &&& (2 ^ m - 1)) : Int)) (hqb : 2 * f + 1 ≤ (cnt (b &&& (2 ^ m - 1)) : Int)) :
    f + 1 ≤ (cnt ((a &&& (2 ^ m - 1)) &&& (b &&& (2 ^ m - 1))) : Int) ∧
    ((cnt (bad &&& (2 ^ m - 1)) : Int) ≤ f → 1 ≤ cnt ((a &&& (2 ^ m - 1)) &&& (b &&& (2 ^ m - 1)) &&& (4294967295 - bad))) := by
  have hp := Nat.two_pow_pos m
  have l1 : a &&& (2 ^ m - 1) < 2 ^ m := Nat.lt_of_le_of_lt Nat.and_le_right (by omega)
  have l2 : b &&& (2 ^ m - 1) < 2 ^ m := Nat.lt_of_le_of_lt Nat.and_le_right (by omega)
  have h1 := cnt_and_or (a &&& (2 ^ m - 1)) (b &&& (2 ^ m - 1))
  have h2 := cnt_le m _ (Nat.or_lt_two_pow l1 l2)
  have h3 : f + 1 ≤ (cnt ((a &&& (2 ^ m - 1)) &&& (b &&& (2 ^ m - 1))) : Int) := by omega
  refine ⟨h3, fun hf => ?_⟩
  have la : a &&& (2 ^ m - 1) < 4294967296 := Nat.lt_of_le_of_lt Nat.and_le_left ha
  have h4 := cnt_split 32 ((a &&& (2 ^ m - 1)) &&& (b &&& (2 ^ m - 1))) bad (Nat.lt_of_le_of_lt Nat.and_le_left la) hbad
  have e : (a &&& (2 ^ m - 1)) &&& (b &&& (2 ^ m - 1)) &&& bad = ((a &&& (2 ^ m - 1)) &&& b) &&& (bad &&& (2 ^ m - 1)) := by
    apply Nat.eq_of_testBit_eq
    intro i
    simp only [Nat.testBit_and]
    cases a.testBit i <;> cases b.testBit i <;> cases bad.testBit i <;> cases (2 ^ m - 1).testBit i <;> rfl
  have h5 := cnt_and_le ((a &&& (2 ^ m - 1)) &&& b) (bad &&& (2 ^ m - 1))
  rw [← e] at h5
  rw [show (2 : Nat) ^ 32 - 1 - bad = 4294967295 - bad by omega] at h4
  omega
set_option maxHeartbeats 1000000 in
set_option maxRecDepth 100000 in
theorem meets_walk (f : Int) (a b bad : Nat) (w : World) (h0 : -9223372036854775808 ≤ f) (h1 : f ≤ 9223372036854775807) (ha : a < 4294967296) (hb : b < 4294967296) (hbad : bad < 4294967296) (hT : Tab w) :
    Calls Tryd.prog 5 #[.int .i64 f, .int .u32 a, .int .u32 b, .int .u32 bad] w (alivePost w) := by
  have HT := Lib.hid hT
  clear hT
  obtain ⟨m, hm, hm10⟩ := more_is f
  have call_ := all_any f
  have hf := full_any f
  rw [hm] at call_
  rw [hm, Int.toNat_natCast] at hf
  rcases Bool.eq_false_or_eq_true (isF f) with h | h
  · have hfl := isF_le h
    have hm3 : (m : Int) = 3 * f + 1 := by rw [← hm]; unfold more; rw [if_pos h]
    have hq := quorum_any f
    have hs := some_any f
    rw [show more 2 f = 2 * f + 1 by unfold more; rw [if_pos h]] at hq
    rw [show more 1 f = f + 1 by unfold more; rw [if_pos h]; omega] at hs
    have hmz : ((m : Int) == 0) = false := by simp; omega
    have hmeet := meet_plain m a b bad f hm3 (by omega) ha hbad
    have hp := pow_lt32 (k := m) (by omega)
    obtain ⟨y, hy⟩ : ∃ y, y = 2 ^ m - 1 := ⟨_, rfl⟩
    rw [← hy] at hmeet hf
    have hy32 : y < 4294967296 := by omega
    have e1 := u32_and_nat a y ha hy32
    have e2 := u32_and_nat b y hb hy32
    have e3 := u32_and_nat bad y hbad hy32
    have la : a &&& y < 4294967296 := Nat.lt_of_le_of_lt Nat.and_le_left ha
    have lb : b &&& y < 4294967296 := Nat.lt_of_le_of_lt Nat.and_le_left hb
    have lbad : bad &&& y < 4294967296 := Nat.lt_of_le_of_lt Nat.and_le_left hbad
    obtain ⟨a1, ha1⟩ : ∃ x, x = a &&& y := ⟨_, rfl⟩
    obtain ⟨b1, hb1⟩ : ∃ x, x = b &&& y := ⟨_, rfl⟩
    obtain ⟨d1, hd1⟩ : ∃ x, x = bad &&& y := ⟨_, rfl⟩
    rw [← ha1] at e1 la hmeet
    rw [← hb1] at e2 lb hmeet
    rw [← hd1] at e3 lbad hmeet
    have e4 := u32_and_nat a1 b1 la lb
    have lx : a1 &&& b1 < 4294967296 := Nat.lt_of_le_of_lt Nat.and_le_left la
    obtain ⟨x, hx⟩ : ∃ x, x = a1 &&& b1 := ⟨_, rfl⟩
    rw [← hx] at e4 lx hmeet
    have e5 := u32_andNot_nat x bad lx hbad
    have lz : x &&& (4294967295 - bad) < 4294967296 := Nat.lt_of_le_of_lt Nat.and_le_left lx
    obtain ⟨z, hz⟩ : ∃ z, z = x &&& (4294967295 - bad) := ⟨_, rfl⟩
    rw [← hz] at e5 lz hmeet
    have c1 := fun w => count_any a1 w la
    have c2 := fun w => count_any b1 w lb
    have c3 := fun w => count_any d1 w lbad
    have c4 := fun w => count_any x w lx
    have c5 := fun w => count_any z w lz
    have k1 := cnt_le 32 a1 la
    have k2 := cnt_le 32 b1 lb
    have k3 := cnt_le 32 d1 lbad
    have k4 := cnt_le 32 x lx
    have k5 := cnt_le 32 z lz
    generalize cnt a1 = n1 at *
    generalize cnt b1 = n2 at *
    generalize cnt d1 = n3 at *
    generalize cnt x = n4 at *
    generalize cnt z = n5 at *
    have HH := Lib.hid (And.intro call_ (And.intro hf (And.intro hq (And.intro hs (And.intro c1 (And.intro c2 (And.intro c3 (And.intro c4 c5))))))))
    have HM := Lib.hid hmeet
    clear call_ hf hq hs c1 c2 c3 c4 c5 hmeet hm hp hy ha1 hb1 hd1 hx hz hm3
    by_cases q1 : (n1 : Int) < 2 * f + 1
    · -- too few of the one
      go_enter Tryd.func5, Tryd.ntmps5
      go_wp2_with (first
        | (go_at_call 7; refine (alive_any _ HT.out).mono ?_; rintro e w1 ⟨rfl, hb1⟩)
        | (go_at_call 9; refine (HH.out.1 _).mono ?_; rintro e w2 ⟨rfl, rfl⟩)
        | (go_at_call 14; refine (HH.out.2.1 _).mono ?_; rintro e w2 ⟨rfl, rfl⟩)
        | (go_at_call 10; refine (HH.out.2.2.1 _).mono ?_; rintro e w2 ⟨rfl, rfl⟩)
        | (go_at_call 12; refine (HH.out.2.2.2.1 _).mono ?_; rintro e w2 ⟨rfl, rfl⟩)
        | (go_at_call 13; (first | ((with_reducible refine (HH.out.2.2.2.2.1 _).mono ?_); rintro e w2 ⟨rfl, rfl⟩) | ((with_reducible refine (HH.out.2.2.2.2.2.1 _).mono ?_); rintro e w2 ⟨rfl, rfl⟩) | ((with_reducible refine (HH.out.2.2.2.2.2.2.1 _).mono ?_); rintro e w2 ⟨rfl, rfl⟩) | ((with_reducible refine (HH.out.2.2.2.2.2.2.2.1 _).mono ?_); rintro e w2 ⟨rfl, rfl⟩) | ((with_reducible refine (HH.out.2.2.2.2.2.2.2.2 _).mono ?_); rintro e w2 ⟨rfl, rfl⟩))))
      go_ret
      exact ⟨rfl, hb1⟩
    · by_cases q2 : (n2 : Int) < 2 * f + 1
      · -- too few of the other
        go_enter Tryd.func5, Tryd.ntmps5
        go_wp2_with (first
          | (go_at_call 7; refine (alive_any _ HT.out).mono ?_; rintro e w1 ⟨rfl, hb1⟩)
          | (go_at_call 9; refine (HH.out.1 _).mono ?_; rintro e w2 ⟨rfl, rfl⟩)
          | (go_at_call 14; refine (HH.out.2.1 _).mono ?_; rintro e w2 ⟨rfl, rfl⟩)
          | (go_at_call 10; refine (HH.out.2.2.1 _).mono ?_; rintro e w2 ⟨rfl, rfl⟩)
          | (go_at_call 12; refine (HH.out.2.2.2.1 _).mono ?_; rintro e w2 ⟨rfl, rfl⟩)
          | (go_at_call 13; (first | ((with_reducible refine (HH.out.2.2.2.2.1 _).mono ?_); rintro e w2 ⟨rfl, rfl⟩) | ((with_reducible refine (HH.out.2.2.2.2.2.1 _).mono ?_); rintro e w2 ⟨rfl, rfl⟩) | ((with_reducible refine (HH.out.2.2.2.2.2.2.1 _).mono ?_); rintro e w2 ⟨rfl, rfl⟩) | ((with_reducible refine (HH.out.2.2.2.2.2.2.2.1 _).mono ?_); rintro e w2 ⟨rfl, rfl⟩) | ((with_reducible refine (HH.out.2.2.2.2.2.2.2.2 _).mono ?_); rintro e w2 ⟨rfl, rfl⟩))))
        go_ret
        exact ⟨rfl, hb1⟩
      · obtain ⟨q4, hz5⟩ := HM.out (by omega) (by omega)
        have q4' : ¬ (n4 : Int) < f + 1 := by omega
        by_cases q3 : f < (n3 : Int)
        · clear hz5
          go_enter Tryd.func5, Tryd.ntmps5
          go_wp2_with (first
            | (go_at_call 7; refine (alive_any _ HT.out).mono ?_; rintro e w1 ⟨rfl, hb1⟩)
            | (go_at_call 9; refine (HH.out.1 _).mono ?_; rintro e w2 ⟨rfl, rfl⟩)
            | (go_at_call 14; refine (HH.out.2.1 _).mono ?_; rintro e w2 ⟨rfl, rfl⟩)
            | (go_at_call 10; refine (HH.out.2.2.1 _).mono ?_; rintro e w2 ⟨rfl, rfl⟩)
            | (go_at_call 12; refine (HH.out.2.2.2.1 _).mono ?_; rintro e w2 ⟨rfl, rfl⟩)
            | (go_at_call 13; (first | ((with_reducible refine (HH.out.2.2.2.2.1 _).mono ?_); rintro e w2 ⟨rfl, rfl⟩) | ((with_reducible refine (HH.out.2.2.2.2.2.1 _).mono ?_); rintro e w2 ⟨rfl, rfl⟩) | ((with_reducible refine (HH.out.2.2.2.2.2.2.1 _).mono ?_); rintro e w2 ⟨rfl, rfl⟩) | ((with_reducible refine (HH.out.2.2.2.2.2.2.2.1 _).mono ?_); rintro e w2 ⟨rfl, rfl⟩) | ((with_reducible refine (HH.out.2.2.2.2.2.2.2.2 _).mono ?_); rintro e w2 ⟨rfl, rfl⟩))))
          go_ret
          exact ⟨rfl, hb1⟩
        · have q5 : 1 ≤ n5 := hz5 (by omega)
          clear hz5
          go_enter Tryd.func5, Tryd.ntmps5
          go_wp2_with (first
            | (go_at_call 7; refine (alive_any _ HT.out).mono ?_; rintro e w1 ⟨rfl, hb1⟩)
            | (go_at_call 9; refine (HH.out.1 _).mono ?_; rintro e w2 ⟨rfl, rfl⟩)
            | (go_at_call 14; refine (HH.out.2.1 _).mono ?_; rintro e w2 ⟨rfl, rfl⟩)
            | (go_at_call 10; refine (HH.out.2.2.1 _).mono ?_; rintro e w2 ⟨rfl, rfl⟩)
            | (go_at_call 12; refine (HH.out.2.2.2.1 _).mono ?_; rintro e w2 ⟨rfl, rfl⟩)
            | (go_at_call 13; (first | ((with_reducible refine (HH.out.2.2.2.2.1 _).mono ?_); rintro e w2 ⟨rfl, rfl⟩) | ((with_reducible refine (HH.out.2.2.2.2.2.1 _).mono ?_); rintro e w2 ⟨rfl, rfl⟩) | ((with_reducible refine (HH.out.2.2.2.2.2.2.1 _).mono ?_); rintro e w2 ⟨rfl, rfl⟩) | ((with_reducible refine (HH.out.2.2.2.2.2.2.2.1 _).mono ?_); rintro e w2 ⟨rfl, rfl⟩) | ((with_reducible refine (HH.out.2.2.2.2.2.2.2.2 _).mono ?_); rintro e w2 ⟨rfl, rfl⟩))))
          go_ret
          exact ⟨ret_bool (by simp; omega), hb1⟩
  · have hm0 : m = 0 := by
      have : more 3 f = 0 := by unfold more; rw [if_neg (by rw [h]; decide)]
      omega
    subst hm0
    have HH := Lib.hid (And.intro call_ hf)
    clear call_ hf hm
    go_enter Tryd.func5, Tryd.ntmps5
    go_wp2_with (first
      | (go_at_call 7; refine (alive_any _ HT.out).mono ?_; rintro e w1 ⟨rfl, hb1⟩)
      | (go_at_call 9; refine (HH.out.1 _).mono ?_; rintro e w2 ⟨rfl, rfl⟩)
      | (go_at_call 14; refine (HH.out.2 _).mono ?_; rintro e w2 ⟨rfl, rfl⟩))
    go_ret
    exact ⟨rfl, hb1⟩
end Go.Proofs.YtbgkeanhidokpaaDoor
