/-
  What no table answers: the statement's walk.
-/
import Derived.Test.YtglnocclhhdbbaaAlive
set_option linter.unusedSimpArgs false
set_option linter.unusedVariables false
set_option maxRecDepth 10000
namespace Go.Proofs.Ytglnocclhhdbbaa
open Go.RowKit Go.Lib
open L3 (Blk Reads)
open L6 (Turn moreB fresh From In)

set_option maxHeartbeats 4000000 in
set_option maxRecDepth 100000 in
theorem nil_walk (n : Int) (w : World) : Calls Try.prog 5 #[.int .i64 n] w fun e w' => e = .returned (.bool true) ∧ Below w.heap.size w w' := by
  have HA := Lib.hid (fun W => alive_any W)
  go_enter Try.func5, Try.ntmps5
  go_wp2_with (first
    | (go_at_call 6; refine (HA.out _).mono ?_; unfold gives; rintro e w1 ⟨rfl, hb1⟩)
    | (go_at_call 15; refine (clear_nil _).mono ?_; unfold gives; rintro e w2 ⟨rfl, hb2⟩)
    | (go_at_call 9; refine (want_nil _ _).mono ?_; unfold gives; rintro e w3 ⟨rfl, hb3⟩)
    | (go_at_call 11; refine (got_nil _ _).mono ?_; unfold gives; rintro e w4 ⟨rfl, hb4⟩)
    | (go_at_call 13; refine (tick_nil _).mono ?_; unfold gives; rintro e w5 ⟨rfl, hb5⟩)
    | (go_at_call 16; refine (wants_nil _).mono ?_; unfold gives; rintro e w6 ⟨rfl, hb6⟩)
    | go_in)
  go_ret
  exact ⟨rfl, nxt (nxt (nxt (nxt (nxt hb1 hb2) hb3) hb4) hb5) hb6⟩
end Go.Proofs.Ytglnocclhhdbbaa
