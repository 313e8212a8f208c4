/-
  One of the document's calls, done by the program; what no tape answers.
-/
import Derived.Test.YthhjdielananeaaStrV
import Derived.Test.YthhjdielananeaaTapW
import Derived.Test.YthhjdielananeaaTap5
import Derived.Test.YthhjdielananeaaTap6
import Derived.Test.YthhjdielananeaaTap7
import Derived.Test.YthhjdielananeaaTap8
import Derived.Lib.ConvBytes
import Derived.Laws.IdiomStrings
set_option linter.unusedSimpArgs false
set_option linter.unusedVariables false
set_option maxRecDepth 10000
namespace Go.Proofs.Ythhjdielananeaa
open Go.RowKit Go.Lib
open L3 (Blk Reads block_of_add add_of_add)
open L6 (Turn moreB fresh From In)

set_option maxHeartbeats 1000000 in
set_option maxRecDepth 100000 in
theorem ready_nil (w : World) : Calls Try.prog 48 #[.pointer none] w fun e w' => e = .returned (.int .i64 3) ∧ w = w' := by
  go_enter Try.func48, Try.ntmps48
  go_wp2
  go_ret
  exact ⟨rfl, rfl⟩
set_option maxHeartbeats 1000000 in
set_option maxRecDepth 100000 in
theorem hold_nil (w : World) : Calls Try.prog 71 #[.pointer none] w (gives (.int .i64 3) w) := by
  have hb := below_new w (.cells #[.pointer none] 46)
  go_enter Try.func71, Try.ntmps71
  go_wp2_with (first
    | (go_at_call 48; refine (ready_nil _).mono ?_; rintro e w2 ⟨rfl, rfl⟩)
    | go_in)
  go_ret
  exact ⟨rfl, hb⟩
set_option maxHeartbeats 1000000 in
set_option maxRecDepth 100000 in
theorem write_nil (v : Value) (w : World) : Calls Try.prog 70 #[.pointer none, v] w (gives (.int .i64 3) w) := by
  have hb := below_new w (.cells #[.pointer none] 46)
  go_enter Try.func70, Try.ntmps70
  go_wp2_with (first
    | (go_at_call 48; refine (ready_nil _).mono ?_; rintro e w2 ⟨rfl, rfl⟩)
    | go_in)
  go_ret
  exact ⟨rfl, hb⟩
set_option maxHeartbeats 1000000 in
set_option maxRecDepth 100000 in
theorem shed_nil (p : Int) (w : World) : Calls Try.prog 47 #[.pointer none, .int .i64 p] w (gives (.int .i64 3) w) := by
  have hb := nxt (below_new w (.cells #[.pointer none] 46)) (below_new _ (.cells #[.int .i64 p] 3))
  go_enter Try.func47, Try.ntmps47
  go_wp2_with (first
    | (go_at_call 48; refine (ready_nil _).mono ?_; rintro e w2 ⟨rfl, rfl⟩)
    | go_in)
  go_ret
  exact ⟨rfl, hb⟩
set_option maxHeartbeats 1000000 in
set_option maxRecDepth 100000 in
theorem back_nil (p : Int) (w : World) : Calls Try.prog 41 #[.pointer none, .int .i64 p] w (gives (.int .i64 3) w) := by
  have hb := nxt (below_new w (.cells #[.pointer none] 46)) (below_new _ (.cells #[.int .i64 p] 3))
  go_enter Try.func41, Try.ntmps41
  go_wp2_with (first
    | (go_at_call 48; refine (ready_nil _).mono ?_; rintro e w2 ⟨rfl, rfl⟩)
    | go_in)
  go_ret
  exact ⟨rfl, hb⟩
set_option maxHeartbeats 1000000 in
set_option maxRecDepth 100000 in
theorem fuse_nil (p : Int) (w : World) : Calls Try.prog 23 #[.pointer none, .int .i64 p] w (gives (.int .i64 3) w) := by
  go_enter Try.func23, Try.ntmps23
  go_wp2
  go_ret
  exact ⟨rfl, Below.refl _ _⟩
set_option maxHeartbeats 1000000 in
set_option maxRecDepth 100000 in
theorem crash_nil (p : Int) (w : World) : Calls Try.prog 24 #[.pointer none, .int .i64 p] w (gives (.int .i64 3) w) := by
  go_enter Try.func24, Try.ntmps24
  go_wp2
  go_ret
  exact ⟨rfl, Below.refl _ _⟩
set_option maxHeartbeats 1000000 in
set_option maxRecDepth 100000 in
theorem read_nil (w : World) : Calls Try.prog 28 #[.pointer none] w (gives (.tuple #[.int .i64 0, .slice none 0 0, .int .i64 3]) w) := by
  go_enter Try.func28, Try.ntmps28
  go_wp2_with (first
    | (go_at_call 48; refine (ready_nil _).mono ?_; rintro e w2 ⟨rfl, rfl⟩)
    | go_in)
  go_ret3
  exact ⟨rfl, Below.refl _ _⟩
set_option maxHeartbeats 1000000 in
set_option maxRecDepth 100000 in
theorem places_nil (w : World) : Calls Try.prog 62 #[.pointer none] w (gives (.tuple #[.int .i64 0, .int .i64 0, .int .i64 0]) w) := by
  go_enter Try.func62, Try.ntmps62
  go_wp2
  go_ret3
  exact ⟨rfl, Below.refl _ _⟩
end Go.Proofs.Ythhjdielananeaa
