/-
  What no tape answers: the statement's walk.
-/
import Derived.Test.YtdojbnjaomlngaaAlive
set_option linter.unusedSimpArgs false
set_option linter.unusedVariables false
set_option maxRecDepth 10000
namespace Go.Proofs.Ytdojbnjaomlngaa
open Go.RowKit Go.Lib
open L3 (Blk Reads)
open L6 (Turn moreB fresh From In)

set_option maxHeartbeats 4000000 in
set_option maxRecDepth 100000 in
theorem nil_walk (x : Actx) (w : World) : Calls Try.prog 5 #[.agg (acC x)] w fun e w' => e = .returned (.bool true) ∧ Below w.heap.size w w' := by
  have HA := Lib.hid (fun W => alive_any W)
  have hyb : Blk (w.alloc (.cells (acC x) 31)) w.heap.size 31 (acC x) := Blk.new _ _ _
  have hb0 : Below w.heap.size w (w.alloc (.cells (acC x) 31)) := below_new _ _
  go_enter Try.func5, Try.ntmps5
  go_wp2_with (first
    | (refine wpList_row_at rfl _ _ rfl w.heap.size rfl _ _ _ _ hy2 Try.underlying31 rfl acInfo ?_)
    | (go_at_call 6; refine (HA.out _).mono ?_; unfold gives; rintro e w1 ⟨rfl, hb1⟩
       have hy1 := hyb.below hb1 hyb.lt)
    | (go_at_call 13; refine (places_nil _).mono ?_; unfold gives; rintro e w2 ⟨rfl, hb2⟩
       have hy2 := hy1.below hb2 hy1.lt)
    | (go_at_call 9; refine (do_nil x _).mono ?_; unfold gives; rintro e w3 ⟨rfl, hb3⟩)
    | (go_at_call 10; refine (on_nil _).mono ?_; unfold gives; rintro e w4 ⟨rfl, hb4⟩)
    | go_in)
  go_ret
  exact ⟨rfl, nxt (nxt (nxt (nxt hb0 hb1) hb2) hb3) hb4⟩
end Go.Proofs.Ytdojbnjaomlngaa
