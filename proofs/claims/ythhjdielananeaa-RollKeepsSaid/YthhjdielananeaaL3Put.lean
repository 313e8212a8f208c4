/-
  Which numbers may be written, and the bytes of one behind bytes that the call owns.
-/
import Derived.Test.YthhjdielananeaaL3Words
import Derived.Test.YthhjdielananeaaL3WireMath
import Derived.Lib.BufSteps
import Derived.LoopTactic
import Derived.Lib.Hide
import Derived.WalkSpells
import Derived.OwnWalk
set_option linter.unusedSimpArgs false
set_option linter.unusedVariables false
namespace Go.Proofs.Ythhjdielananeaa.L3
open Go.RowKit Go.Lib

theorem byteInfo : (Try.prog.info? 5).map (fun i => (i.zero, i.size, i.bytes)) = some (some (.int .u8 0), 1, 1) := by kernel_rfl
/-- May a number be written? -/
def okN (n : Int) : Bool := decide (0 ≤ n ∧ n ≤ 4611686018427387904)
theorem okN_mk {n : Int} (h0 : 0 ≤ n) (h1 : n ≤ 4611686018427387904) : okN n = true := decide_eq_true ⟨h0, h1⟩
theorem okN_not {n : Int} (h : n < 0 ∨ 4611686018427387904 < n) : okN n = false := decide_eq_false (by omega)
theorem okN_le {n : Int} (h : okN n = true) : 0 ≤ n ∧ n ≤ 4611686018427387904 := of_decide_eq_true h
theorem okN_gt {n : Int} (h : okN n = false) : n < 0 ∨ 4611686018427387904 < n := by have := of_decide_eq_false h; omega

theorem allowed_any (n : Int) (w : World) : Calls Try.prog 51 #[.int .i64 n] w fun e w' => e = .returned (.bool (okN n)) ∧ w = w' := by
  by_cases h0 : 0 ≤ n
  · by_cases h1 : n ≤ 4611686018427387904
    · have hk := okN_mk h0 h1
      go_enter Try.func51, Try.ntmps51
      go_wp2
      go_ret
      exact ⟨congrArg (fun b => Ending.returned (.bool b)) hk.symm, rfl⟩
    · have hk := okN_not (n := n) (by omega)
      go_enter Try.func51, Try.ntmps51
      go_wp2
      go_ret
      exact ⟨rfl, rfl⟩
  · have hk := okN_not (n := n) (by omega)
    go_enter Try.func51, Try.ntmps51
    go_wp2
    go_ret
    exact ⟨rfl, rfl⟩

set_option maxHeartbeats 1000000 in
set_option maxRecDepth 100000 in
theorem put_any (B : Nat) (v : Value) (l : List UInt8) (n : Nat) (W0 w : World) (h : OwnBuf B 5 v l.length (byteCells l) W0 w) (hn : n ≤ 4611686018427387904) (hl : l.length ≤ 1000000000) :
    Calls Try.prog 52 #[v, .int .i64 n] w fun e w' => ∃ v', e = .returned v' ∧ OwnBuf B 5 v' (l ++ encN n).length (byteCells (l ++ encN n)) W0 w' := by
  obtain ⟨i0, hi, hz0, hz1, hz2⟩ := info_parts byteInfo
  go_enter Try.func52, Try.ntmps52
  go_wp2
  go_loopw [0, 1] (fun b k wr => ∃ (m : Nat) (x : List UInt8), k = .int .i64 m ∧ m ≤ 4611686018427387904 ∧ x ++ encN m = l ++ encN n ∧ OwnBuf B 5 b x.length (byteCells x) W0 wr) (fun _ k _ => (intOf k).toNat)
  case atStart => exact ⟨n, l, rfl, hn, rfl, h⟩
  case round =>
    obtain ⟨m, x, rfl, hm, he, hb⟩ := hrel
    have hle : x.length ≤ 1000000009 := by
      have := congrArg List.length he
      have h9 := encN_le9 hn
      simp at this; omega
    by_cases hlt : 128 ≤ m
    · have HE := Lib.hid he
      clear he
      go_wp2_with (at_builtin; refine wpList_append_byte rfl _ _ 53 rfl B 5 i0 Try.underlying53 hi hz0 hz1 hz2 u0 x.length (byteCells x) rfl W0 wr _ hb rfl (by omega) ?_)
      intro v' w' hb'
      go_wp2_with fail
      go_round
      case rel =>
        have e2 : byteCells (x ++ [UInt8.ofNat (m % 128 + 128)]) = byteCells x ++ [.int .u8 ((m : Int) % 128 + 128)] := by simp [byteCells]; omega
        refine ⟨m / 128, x ++ [UInt8.ofNat (m % 128 + 128)], by simp, by omega, ?_, ?_⟩
        · rw [List.append_assoc, List.singleton_append, ← encN_big hlt]; exact HE.out
        · rw [e2, List.length_append, List.length_singleton]; exact hb'
      case measure => simp [intOf]; omega
    · have HE := Lib.hid he
      clear he
      go_wp2_with (at_builtin; refine wpList_append_byte rfl _ _ 53 rfl B 5 i0 Try.underlying53 hi hz0 hz1 hz2 u0 x.length (byteCells x) rfl W0 wr _ hb rfl (by omega) ?_)
      intro v' w' hb'
      go_wp2_with fail
      go_ret
      refine ⟨_, rfl, ?_⟩
      have e : l ++ encN n = x ++ [UInt8.ofNat m] := by rw [← HE.out, encN_small (by omega)]
      have e2 : byteCells (x ++ [UInt8.ofNat m]) = byteCells x ++ [.int .u8 (m : Int)] := by simp [byteCells]; omega
      rw [e, e2, List.length_append, List.length_singleton]
      exact hb'
end Go.Proofs.Ythhjdielananeaa.L3
