/-
  The walk of the law on no coin and no register.
-/
import Derived.Test.YtjkfogjhakcnfaaDoorRowKit
set_option linter.unusedSimpArgs false
set_option linter.unusedVariables false
namespace Go.Proofs.YtjkfogjhakcnfaaDoor
open Go.RowKit Go.Maps Go.Lib

set_option maxHeartbeats 2000000 in
set_option maxRecDepth 100000 in
theorem nil_walk (u k : Int) (n : Nat) (w : World) (hT : Tab w) : Calls Tryd.prog 5 #[.int .i64 u, .int .i64 k, .int .u32 n] w (alivePost w) := by
  have hal := alive_any _ hT
  have hnc := fun w => newc_ok 1 w (by decide)
  have HA := Lib.hid hal
  have HN := Lib.hid hnc
  clear hal hT hnc
  rcases Int.lt_or_le u 1 with h1 | h1
  · have hv : mayV u = false := by simp [mayV]; omega
    have HV := Lib.hid hv
    clear hv
    go_enter Tryd.func5, Tryd.ntmps5
    go_wp2_with (first
      | (go_at_call 6; refine HA.out.mono ?_; unfold alivePost; rintro e w1 ⟨rfl, hb1⟩)
      | (go_at_call 13; (with_reducible refine (see_nil _ _ _ _).mono ?_); rintro e w2 ⟨rfl, rfl⟩)
      | (go_at_call 13; (with_reducible refine (see_view _ _ _ _ _ HV.out).mono ?_); rintro e w2 ⟨rfl, rfl⟩)
      | (go_at_call 11; refine (choose_nil _ _ _).mono ?_; rintro e w2 ⟨rfl, rfl⟩)
      | (go_at_call 18; refine (seen_nil _ _).mono ?_; rintro e w2 ⟨rfl, rfl⟩)
      | (go_at_call 9; refine (HN.out _).mono ?_; rintro e w3 ⟨c, rfl, hC3, hb3⟩))
    go_ret
    exact ⟨rfl, nxt hb1 hb3 hb1.size⟩
  · have h1' : decide (u < 1) = false := by simp; omega
    rcases Int.lt_or_le 1048576 u with h2 | h2
    · have hv : mayV u = false := by simp [mayV]; omega
      have HV := Lib.hid hv
      clear hv
      go_enter Tryd.func5, Tryd.ntmps5
      go_wp2_with (first
        | (go_at_call 6; refine HA.out.mono ?_; unfold alivePost; rintro e w1 ⟨rfl, hb1⟩)
        | (go_at_call 13; (with_reducible refine (see_nil _ _ _ _).mono ?_); rintro e w2 ⟨rfl, rfl⟩)
        | (go_at_call 13; (with_reducible refine (see_view _ _ _ _ _ HV.out).mono ?_); rintro e w2 ⟨rfl, rfl⟩)
        | (go_at_call 11; refine (choose_nil _ _ _).mono ?_; rintro e w2 ⟨rfl, rfl⟩)
        | (go_at_call 18; refine (seen_nil _ _).mono ?_; rintro e w2 ⟨rfl, rfl⟩)
        | (go_at_call 9; refine (HN.out _).mono ?_; rintro e w3 ⟨c, rfl, hC3, hb3⟩))
      go_ret
      exact ⟨rfl, nxt hb1 hb3 hb1.size⟩
    · have hv : mayV u = true := by simp [mayV]; omega
      have HV := Lib.hid hv
      clear hv
      go_enter Tryd.func5, Tryd.ntmps5
      go_wp2_with (first
        | (go_at_call 6; refine HA.out.mono ?_; unfold alivePost; rintro e w1 ⟨rfl, hb1⟩)
        | (go_at_call 13; (with_reducible refine (see_nil _ _ _ _).mono ?_); rintro e w2 ⟨rfl, rfl⟩)
        | (go_at_call 13; (with_reducible refine (see_none _ _ _ _ HV.out).mono ?_); rintro e w2 ⟨rfl, rfl⟩)
        | (go_at_call 11; refine (choose_nil _ _ _).mono ?_; rintro e w2 ⟨rfl, rfl⟩)
        | (go_at_call 18; refine (seen_nil _ _).mono ?_; rintro e w2 ⟨rfl, rfl⟩)
        | (go_at_call 9; refine (HN.out _).mono ?_; rintro e w3 ⟨c, rfl, hC3, hb3⟩))
      go_ret
      exact ⟨rfl, nxt hb1 hb3 hb1.size⟩
end Go.Proofs.YtjkfogjhakcnfaaDoor
