/-
  What no tree answers: the statement's walk.
-/
import Derived.Test.YtgepokdilieodaaAlive
set_option linter.unusedSimpArgs false
set_option linter.unusedVariables false
set_option maxRecDepth 10000
namespace Go.Proofs.Ytgepokdilieodaa
open Go.RowKit Go.Maps Go.Lib
open L3 (Blk Reads)
open L6 (Turn moreB fresh From In)

theorem blInfoA {cs : Array Value} (h : cs.size = 14) : (Try.prog.info? 39).map (·.size) = some cs.size := by rw [h]; exact blInfo
set_option maxHeartbeats 1000000 in
set_option maxRecDepth 100000 in
theorem refuses_nil (n : Int) (cs : Array Value) (w : World) (hc : cs.size = 14) : Calls Try.prog 25 #[.pointer none, .int .i64 n, .agg cs] w (gives (.int .i64 3) w) := by
  go_enter Try.func25, Try.ntmps25
  go_wp2
  go_ret
  exact ⟨rfl, (Below.refl _ _).alloc (Nat.le_refl _) _⟩
set_option maxHeartbeats 1000000 in
set_option maxRecDepth 100000 in
theorem put_nil (n : Int) (cs : Array Value) (w : World) (hc : cs.size = 14) : Calls Try.prog 11 #[.pointer none, .int .i64 n, .agg cs] w (gives (.int .i64 3) w) := by
  have hr := fun W => refuses_nil n cs W hc
  have k0 : Blk (w.alloc (.cells cs 39)) w.heap.size 39 cs := Blk.new _ _ _
  have hb0 : Below w.heap.size w (w.alloc (.cells cs 39)) := (Below.refl _ _).alloc (Nat.le_refl _) _
  have hi := blInfoA hc
  go_enter Try.func11, Try.ntmps11
  go_wp2_with (first
    | (refine wpList_row_at rfl _ _ rfl w.heap.size rfl _ _ _ _ k0 Try.underlying39 rfl hi ?_)
    | (go_at_call 25; refine (hr _).mono ?_; unfold gives; rintro e w1 ⟨rfl, hb1⟩)
    | go_in)
  go_ret
  exact ⟨rfl, nxt hb0 hb1⟩
set_option maxHeartbeats 4000000 in
set_option maxRecDepth 100000 in
theorem nil_walk (n : Int) (cs : Array Value) (w : World) (hc : cs.size = 14) : Calls Try.prog 6 #[.int .i64 n, .agg cs] w fun e w' => e = .returned (.bool true) ∧ Below w.heap.size w w' := by
  have k0 : Blk (w.alloc (.cells cs 39)) w.heap.size 39 cs := Blk.new _ _ _
  have hb0 : Below w.heap.size w (w.alloc (.cells cs 39)) := (Below.refl _ _).alloc (Nat.le_refl _) _
  have hi := blInfoA hc
  have K0 := Lib.hid (fun W (hb : Below (w.alloc (.cells cs 39)).heap.size (w.alloc (.cells cs 39)) W) => k0.below hb k0.lt)
  have HA := Lib.hid (fun W => alive_any W)
  have HP := Lib.hid (fun W => put_nil n cs W hc)
  clear k0
  go_enter Try.func6, Try.ntmps6
  go_upto_region 8 with (first
    | (go_at_call 7; refine (HA.out _).mono ?_; unfold gives; rintro e w1 ⟨rfl, hb1⟩)
    | (go_at_call 21; refine (get_nil _ _).mono ?_; unfold gives; rintro e w2 ⟨rfl, hb2⟩)
    | (refine wpList_store_new rfl _ _ _ rfl _ (blC zeroBl) rfl rfl _ _ blInfo rfl (blC_ones _) ?_)
    | (go_at_call 17; refine (path_nil _ _).mono ?_; unfold gives; rintro e w3 ⟨rfl, hb3⟩)
    | (go_at_call 20; refine (root_nil _).mono ?_; unfold gives; rintro e w4 ⟨rfl, hb4⟩)
    | (go_at_call 15; refine (len_nil _).mono ?_; unfold gives; rintro e w5 ⟨rfl, hb5⟩)
    | go_in)
  have hbx := nxt (nxt (nxt (nxt (nxt hb1 hb2) (below_box 39 zeroBl)) hb3) hb4) hb5
  have k5 := K0.out _ hbx
  clear K0
  go_wp2_with (first
    | (refine wpList_row_at rfl _ _ rfl w.heap.size rfl _ _ _ _ k5 Try.underlying39 rfl hi ?_)
    | (go_at_call 11; refine (HP.out _).mono ?_; unfold gives; rintro e w6 ⟨rfl, hb6⟩)
    | (go_at_call 19; refine (has_nil _ _).mono ?_; unfold gives; rintro e w7 ⟨rfl, hb7⟩)
    | (go_at_call 16; refine (missing_nil _).mono ?_; unfold gives; rintro e w8 ⟨rfl, hb8⟩)
    | (go_at_call 13; refine (prune_nil _ _).mono ?_; unfold gives; rintro e w9 ⟨rfl, hb9⟩)
    | go_in)
  go_ret
  exact ⟨rfl, nxt hb0 (nxt (nxt (nxt (nxt hbx hb6) hb7) hb8) hb9)⟩
end Go.Proofs.Ytgepokdilieodaa
