/-
  A new tree; what no tree answers; the chapter's example.
-/
import Derived.Test.YtgclofemhhhepaaPath
set_option linter.unusedSimpArgs false
set_option linter.unusedVariables false
set_option maxRecDepth 10000
namespace Go.Proofs.Ytgclofemhhhepaa
open Go.RowKit Go.Maps Go.Lib
open L3 (Blk Reads)
open L6 (Turn moreB fresh From In)

theorem build_tree (most : Int) (a b : Nat) (w : World) : (Instr.build 66 #[(0, .int .i64 most), (3, .map (some a)), (4, .map (some b))]).run Try.prog w = .ok (.agg #[.int .i64 most, .int .i64 0, .int .i64 0, .map (some a), .map (some b)]) w := run_build w _ _ _ (by kernel_rfl)
/-- What New tells and leaves. -/
def NewPost (most : Int) (w : World) (e : Ending) (w' : World) : Prop := (∃ g, e = .returned (.tuple #[.pointer (some ⟨g, 0, none⟩), .int .i64 0]) ∧ Tr w' (fresh w w') g ⟨most, 0, 0, []⟩) ∧ Below w.heap.size w w'
set_option maxHeartbeats 2000000 in
theorem new_ok (most : Int) (w : World) (h1 : 1 ≤ most) (h2 : most ≤ 256) : Calls Try.prog 8 #[.int .i64 most] w (NewPost most w) := by
  have hmm := @run_makeMap Try.prog
  have hbd := fun a b W => build_tree most a b W
  go_enter Try.func8, Try.ntmps8
  go_wp2_with (first
    | (refine wpList_build rfl _ _ rfl #[(0, .int .i64 most), (3, .map (some w.heap.size)), (4, .map (some (w.heap.size + 1)))] rfl (hbd _ _ _) ?_)
    | go_in)
  go_ret2
  have hb : Below w.heap.size w (((w.alloc (.map #[] 0)).alloc (.map #[] 0)).alloc (.cells #[.int .i64 most, .int .i64 0, .int .i64 0, .map (some w.heap.size), .map (some (w.heap.size + 1))] 66)) := (((Below.refl _ _).alloc (Nat.le_refl _) _).alloc (by simp) _).alloc (by simp; omega) _
  refine ⟨⟨_, rfl, w.heap.size, w.heap.size + 1, ?_⟩, hb⟩
  have hB : Blk (((w.alloc (.map #[] 0)).alloc (.map #[] 0)).alloc (.cells #[.int .i64 most, .int .i64 0, .int .i64 0, .map (some w.heap.size), .map (some (w.heap.size + 1))] 66)) (w.heap.size + 2) 66 #[.int .i64 most, .int .i64 0, .int .i64 0, .map (some w.heap.size), .map (some (w.heap.size + 1))] := by
    have := Blk.new ((w.alloc (.map #[] 0)).alloc (.map #[] 0)) 66 #[.int .i64 most, .int .i64 0, .int .i64 0, .map (some w.heap.size), .map (some (w.heap.size + 1))]
    simpa using this
  have hm1 : (((w.alloc (.map #[] 0)).alloc (.map #[] 0)).alloc (.cells #[.int .i64 most, .int .i64 0, .int .i64 0, .map (some w.heap.size), .map (some (w.heap.size + 1))] 66)).ownsMap Try.prog 3 blElem w.heap.size 0 (.map []) := ((World.ownsMap_made w _ _ _).alloc _).alloc _
  have hm2 : (((w.alloc (.map #[] 0)).alloc (.map #[] 0)).alloc (.cells #[.int .i64 most, .int .i64 0, .int .i64 0, .map (some w.heap.size), .map (some (w.heap.size + 1))] 66)).ownsMap Try.prog 3 blElem (w.heap.size + 1) 0 (.map []) := by
    have := (World.ownsMap_made (w.alloc (.map #[] 0)) Try.prog 3 blElem).alloc (.cells #[.int .i64 most, .int .i64 0, .int .i64 0, .map (some w.heap.size), .map (some (w.heap.size + 1))] 66)
    simpa using this
  refine ⟨.map [], .map [], ?_, hm1, hm2, FitsI.nil, FitsI.nil, ?_, ?_, ?_, by omega⟩
  · simpa using hB
  all_goals exact ⟨by first | omega | (simp; done) | (simp; omega), by first | omega | (simp; done) | (simp; omega)⟩
set_option maxHeartbeats 1000000 in
theorem new_no (most : Int) (w : World) (h : most < 1 ∨ 256 < most) : Calls Try.prog 8 #[.int .i64 most] w (gives (.tuple #[.pointer none, .int .i64 1]) w) := by
  by_cases h1 : most < 1
  · go_enter Try.func8, Try.ntmps8
    go_wp2
    go_ret2
    exact ⟨rfl, Below.refl _ _⟩
  · have h2 : 256 < most := by omega
    go_enter Try.func8, Try.ntmps8
    go_wp2
    go_ret2
    exact ⟨rfl, Below.refl _ _⟩

/-! No tree -/
theorem has_nil (n : Int) (w : World) : Calls Try.prog 19 #[.pointer none, .int .i64 n] w (gives (.bool false) w) := by
  go_enter Try.func19, Try.ntmps19
  go_wp2
  go_ret
  exact ⟨rfl, Below.refl _ _⟩
theorem missing_nil (w : World) : Calls Try.prog 16 #[.pointer none] w (gives (.slice none 0 0) w) := by
  go_enter Try.func16, Try.ntmps16
  go_wp2
  go_ret
  exact ⟨rfl, Below.refl _ _⟩
theorem root_nil (w : World) : Calls Try.prog 20 #[.pointer none] w (gives (.tuple #[.int .i64 0, .int .i64 0]) w) := by
  go_enter Try.func20, Try.ntmps20
  go_wp2
  go_ret2
  exact ⟨rfl, Below.refl _ _⟩
theorem len_nil (w : World) : Calls Try.prog 15 #[.pointer none] w (gives (.tuple #[.int .i64 0, .int .i64 0]) w) := by
  go_enter Try.func15, Try.ntmps15
  go_wp2
  go_ret2
  exact ⟨rfl, Below.refl _ _⟩
theorem lacks_nil (n : Int) (w : World) : Calls Try.prog 29 #[.pointer none, .int .i64 n] w (gives (.int .i64 3) w) := by
  go_enter Try.func29, Try.ntmps29
  go_wp2
  go_ret
  exact ⟨rfl, Below.refl _ _⟩
theorem path_nil (n : Int) (w : World) : Calls Try.prog 17 #[.pointer none, .int .i64 n] w (gives (.tuple #[.slice none 0 0, .int .i64 3]) w) := by
  have hl := fun W => lacks_nil n W
  go_enter Try.func17, Try.ntmps17
  go_wp2_with (go_at_call 29; refine (hl _).mono ?_; unfold gives; rintro e w1 ⟨rfl, hb1⟩)
  go_ret2
  exact ⟨rfl, hb1⟩
set_option maxHeartbeats 1000000 in
theorem prune_nil (n : Int) (w : World) : Calls Try.prog 13 #[.pointer none, .int .i64 n] w (gives (.int .i64 3) w) := by
  have hl := fun W => lacks_nil n W
  have hb0 : Below w.heap.size w (w.alloc (.cells #[.pointer none] 24)) := (Below.refl _ _).alloc (Nat.le_refl _) _
  go_enter Try.func13, Try.ntmps13
  go_wp2_with (go_at_call 29; refine (hl _).mono ?_; unfold gives; rintro e w1 ⟨rfl, hb1⟩)
  go_ret
  exact ⟨rfl, nxt hb0 hb1⟩
theorem get_nil (n : Int) (w : World) : Calls Try.prog 21 #[.pointer none, .int .i64 n] w (gives (.tuple #[.agg (blC zeroBl), .int .i64 3]) w) := by
  have hbd := fun W => build_zero W
  go_enter Try.func21, Try.ntmps21
  go_upto_region 2 with fail
  refine name_world (fun w1 hw1 => ?_)
  have k0 : Blk w1 w.heap.size 39 (blC zeroBl) := by rw [hw1]; exact box_new w 39 zeroBl
  have hb1 : Below w.heap.size w w1 := by rw [hw1]; exact below_box 39 zeroBl
  clear hw1
  go_wp2_with (first
    | (refine wpList_build rfl _ _ rfl #[] rfl (hbd _) ?_)
    | (refine wpList_store_row rfl _ _ _ rfl w.heap.size (blC zeroBl) rfl rfl _ _ k0 blInfo rfl (blC_ones _) ?_)
    | go_in)
  (try simp only [Exit.inBlock, Exit.then])
  refine bodyPost_ret (v := .tuple #[.agg (blC zeroBl), .int .i64 3]) (results_row2 rfl _ _ w.heap.size rfl (.int .i64 3) rfl _ _ _ _ (blk_setRow k0) Try.underlying39 rfl (by kernel_rfl)) rfl ?_
  exact ⟨rfl, below_setRow hb1 (Nat.le_refl _)⟩
end Go.Proofs.Ytgclofemhhhepaa
