/-
  The small functions of messages, by the code: numbers, what a number is cut to, the bytes of numbers.
-/
import Derived.Test.YtgmejaiifibfoaaDoorMv
import Derived.Test.YtgmejaiifibfoaaDoorB3
set_option linter.unusedSimpArgs false
set_option linter.unusedVariables false
set_option maxRecDepth 10000
namespace Go.Proofs.YtgmejaiifibfoaaDoor
open Go.RowKit Go.Maps Go.Lib
open L3 (Blk Reads Owned encN encs intCells)
open L11 (Crt zeroC crtL crtC mayV okW okW_mk okW_not crtInfo crtC_ones endV)

theorem withinM_is (n lo hi : Int) (b : Bool) (w : World) (h : okW n lo hi = b) : Calls Tryd.prog 49 #[.int .i64 n, .int .i64 lo, .int .i64 hi] w fun e w' => e = .returned (.bool b) ∧ w = w' := by
  subst h
  by_cases h0 : lo ≤ n
  · by_cases h1 : n ≤ hi
    · have hk := okW_mk h0 h1
      go_enter Tryd.func49, Tryd.ntmps49
      go_wp2
      go_ret
      exact ⟨congrArg (fun b => Ending.returned (.bool b)) hk.symm, rfl⟩
    · have hk := okW_not (n := n) (lo := lo) (hi := hi) (by omega)
      go_enter Tryd.func49, Tryd.ntmps49
      go_wp2
      go_ret
      exact ⟨rfl, rfl⟩
  · have hk := okW_not (n := n) (lo := lo) (hi := hi) (by omega)
    go_enter Tryd.func49, Tryd.ntmps49
    go_wp2
    go_ret
    exact ⟨rfl, rfl⟩
theorem viewM_is (n : Int) (b : Bool) (w : World) (h : okW n 1 1048576 = b) : Calls Tryd.prog 47 #[.int .i64 n] w fun e w' => e = .returned (.bool b) ∧ w = w' := by
  go_enter Tryd.func47, Tryd.ntmps47
  go_wp2_with (go_at_call 49; refine (withinM_is _ _ _ _ _ h).mono ?_; rintro e w1 ⟨rfl, rfl⟩)
  go_ret
  exact ⟨rfl, rfl⟩
theorem repM_is (n : Int) (b : Bool) (w : World) (h : okW n 0 9 = b) : Calls Tryd.prog 46 #[.int .i64 n] w fun e w' => e = .returned (.bool b) ∧ w = w' := by
  go_enter Tryd.func46, Tryd.ntmps46
  go_wp2_with (go_at_call 49; refine (withinM_is _ _ _ _ _ h).mono ?_; rintro e w1 ⟨rfl, rfl⟩)
  go_ret
  exact ⟨rfl, rfl⟩
theorem fitM_any (n : Int) (w : World) : Calls Tryd.prog 18 #[.int .i64 n] w fun e w' => e = .returned (.int .i64 (fitM n)) ∧ w = w' := by
  by_cases h : 2147483647 < n
  · have e : fitM n = -1 := by unfold fitM; rw [if_pos h]
    have h2 : ¬ n ≤ 2147483647 := by omega
    rw [e]
    clear e
    go_enter Tryd.func18, Tryd.ntmps18
    go_wp2
    go_ret
    exact ⟨rfl, rfl⟩
  · have e : fitM n = n := by unfold fitM; rw [if_neg h]
    have h2 : n ≤ 2147483647 := by omega
    rw [e]
    clear e
    go_enter Tryd.func18, Tryd.ntmps18
    go_wp2
    go_ret
    exact ⟨rfl, rfl⟩
theorem sure_any (A : Option Addr) (n c : Nat) (k : Int) (w : World) : Calls Tryd.prog 27 #[.slice A n c, .int .i64 k] w fun e w' => e = .returned (.slice A n c) ∧ w = w' := by
  go_enter Tryd.func27, Tryd.ntmps27
  go_wp2
  go_ret
  exact ⟨rfl, rfl⟩
set_option maxHeartbeats 1000000 in
set_option maxRecDepth 100000 in
theorem numsM_any (A : Option Addr) (n c : Nat) (zs : List Int) (w : World) (h : Reads w w.heap.size 1 A n (intCells zs)) (hl : n ≤ 100) (hok : zs.all L3.okN = true) :
    Calls Tryd.prog 14 #[.slice A n c] w (owns (encs zs) w) := by
  have hn : zs.length = n := by have := h.1; simpa [L3.intCells] using this
  have HOK := Lib.hid hok
  clear hok
  go_enter Tryd.func14, Tryd.ntmps14
  go_wp2
  go_loopw [3, 8] (fun b i wr => ∃ k : Nat, i = .int .i64 k ∧ k ≤ n ∧ Owned w.heap.size b (encs (zs.take k)) w wr) (fun _ i _ => n - (RowKit.intOf i).toNat)
  case atStart => exact ⟨0, rfl, Nat.zero_le _, by simpa [L3.encs] using Owned.nil w _ (Nat.le_refl _)⟩
  case round =>
    obtain ⟨k, rfl, hk, ho⟩ := hrel
    by_cases hlt : k < n
    · obtain ⟨ad, u, rfl, _, hx, hc⟩ := (h.below ho.2.1).at_ hlt
      have hkz : k < zs.length := by omega
      have hz : u = .int .i64 zs[k] := by
        simp only [L3.intCells, List.getElem?_map, List.getElem?_eq_getElem hkz, Option.map_some, Option.some.injEq] at hx
        exact hx.symm
      subst hz
      have hall := List.all_eq_true.1 HOK.out
      have hzk := L3.okN_le (hall _ (List.getElem_mem hkz))
      have hle := numsB_le (zs.take k) (by rw [List.all_eq_true]; exact fun x hx => hall x (List.mem_of_mem_take hx)) (by rw [List.length_take]; omega)
      have hsn := L3.take_snoc_int zs k hkz
      obtain ⟨z, hz⟩ : ∃ z, z = zs[k] := ⟨_, rfl⟩
      rw [← hz] at hc hsn hzk
      obtain ⟨A2, c2, rfl, hr2, hc2⟩ := ho.form
      have hnum := L3.num_ok wr.heap.size A2 (encs (zs.take k)).length c2 (encs (zs.take k)) z.toNat wr hr2 (by omega) (Nat.le_refl _) (by omega)
      rw [Int.toNat_of_nonneg hzk.1] at hnum
      have HS := Lib.hid hsn
      have HN := Lib.hid hnum
      clear hx hall hsn hz hnum hzk hle
      go_wp2_with (first
        | (go_at_call 28; refine HN.out.mono ?_; rintro e w3 ⟨v3, rfl, ho3⟩; obtain ⟨A3, c3, rfl, hr3, hc3⟩ := ho3.form)
        | (go_at_call 27; refine (sure_any _ _ _ _ _).mono ?_; rintro e w4 ⟨rfl, rfl⟩))
      go_round
      case rel =>
        refine ⟨k + 1, by go_num, by omega, ?_⟩
        rw [HS.out, L3.encs_snoc]
        rw [List.length_append] at ho3
        exact owned_rebase ho3 ho.2.1 ho.2.2
      case measure => simp [RowKit.intOf]; omega
    · have hkn : zs.take k = zs := List.take_of_length_le (by omega)
      rw [hkn] at ho
      clear hkn
      go_wp2_with fail
      go_ret
      exact ⟨_, rfl, ho⟩
end Go.Proofs.YtgmejaiifibfoaaDoor
