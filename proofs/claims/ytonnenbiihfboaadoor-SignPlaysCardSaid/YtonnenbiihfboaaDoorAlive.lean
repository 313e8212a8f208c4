/-
  No register: what each call tells; the chapter's example holds.
-/
import Derived.Test.YtonnenbiihfboaaDoorAll
set_option linter.unusedSimpArgs false
set_option linter.unusedVariables false
namespace Go.Proofs.YtonnenbiihfboaaDoor
open Go.RowKit Go.Maps Go.Lib

theorem replica_nil (k : Int) (w : World) : Calls Tryd.prog 24 #[.pointer none, .int .i64 k] w fun e w' => e = .returned (.int .i64 3) ∧ w = w' := by
  go_enter Tryd.func24, Tryd.ntmps24
  go_wp2
  go_ret
  exact ⟨rfl, rfl⟩
theorem issue_nil (x : Shr) (w : World) : Calls Tryd.prog 9 #[.pointer none, .agg (shrC x)] w fun e w' => e = .returned (.int .i64 3) ∧ Below w.heap.size w w' := by
  have s0 : (shrC x)[0]? = some (.int .i64 x.k) := rfl
  go_enter Tryd.func9, Tryd.ntmps9
  go_wp2_with (go_at_call 24; refine (replica_nil _ _).mono ?_; rintro e w1 ⟨rfl, rfl⟩)
  go_ret
  exact ⟨rfl, (Below.refl _ _).alloc (Nat.le_refl _) _⟩
theorem counts_nil (x : Shr) (w : World) : Calls Tryd.prog 11 #[.pointer none, .agg (shrC x)] w fun e w' => e = .returned (.int .i64 3) ∧ Below w.heap.size w w' := by
  have s0 : (shrC x)[0]? = some (.int .i64 x.k) := rfl
  go_enter Tryd.func11, Tryd.ntmps11
  go_wp2_with (go_at_call 24; refine (replica_nil _ _).mono ?_; rintro e w1 ⟨rfl, rfl⟩)
  go_ret
  exact ⟨rfl, (Below.refl _ _).alloc (Nat.le_refl _) _⟩
theorem all_nil (s : Stm) (n : Nat) (w : World) : Calls Tryd.prog 13 #[.pointer none, .agg (stmC s), .int .u32 n] w fun e w' => e = .returned (.int .i64 3) ∧ Below w.heap.size w w' := by
  go_enter Tryd.func13, Tryd.ntmps13
  go_wp2
  go_ret
  exact ⟨rfl, (Below.refl _ _).alloc (Nat.le_refl _) _⟩
theorem enough_nil (s : Stm) (n : Nat) (least : Int) (w : World) : Calls Tryd.prog 15 #[.pointer none, .agg (stmC s), .int .u32 n, .int .i64 least] w fun e w' => e = .returned (.int .i64 3) ∧ Below w.heap.size w w' := by
  have hb0 : Below w.heap.size w (w.alloc (.cells (stmC s) 33)) := (Below.refl _ _).alloc (Nat.le_refl _) _
  go_enter Tryd.func15, Tryd.ntmps15
  go_wp2_with (first
    | (refine wpList_load_row rfl _ _ rfl _ rfl _ _ _ _ (Blk.new _ _ (stmC s)) Tryd.underlying33 rfl (by kernel_rfl) ?_)
    | (go_at_call 13; refine (all_nil _ _ _).mono ?_; rintro e w1 ⟨rfl, hb1⟩))
  go_ret
  exact ⟨rfl, hb0.trans (hb1.mono hb0.size)⟩
theorem shares_nil (w : World) : Calls Tryd.prog 16 #[.pointer none] w fun e w' => e = .returned (.slice none 0 0) ∧ w = w' := by
  go_enter Tryd.func16, Tryd.ntmps16
  go_wp2
  go_ret
  exact ⟨rfl, rfl⟩
theorem f_nil (w : World) : Calls Tryd.prog 17 #[.pointer none] w fun e w' => e = .returned (.int .i64 0) ∧ w = w' := by
  go_enter Tryd.func17, Tryd.ntmps17
  go_wp2
  go_ret
  exact ⟨rfl, rfl⟩
theorem bad_nil (w : World) : Calls Tryd.prog 18 #[.pointer none] w fun e w' => e = .returned (.int .u32 0) ∧ w = w' := by
  go_enter Tryd.func18, Tryd.ntmps18
  go_wp2
  go_ret
  exact ⟨rfl, rfl⟩

/-- The example's vote. -/
def voteX : Stm := ⟨2, 1, 1, 1, 0, 0, 0, 0, 0, 0⟩
theorem vote_wf : voteX.wf := by simp [Stm.wf, inI, voteX]
theorem zero_wf : Shr.wf ⟨0, voteX⟩ := ⟨by simp [inI], vote_wf⟩
theorem bts_8 : bts 0 8 = [3] := by rw [bts_half, bts_half, bts_half, bts_half, bts_zero]; rfl
theorem bts_9 : bts 0 9 = [0, 3] := by rw [bts_half, bts_half, bts_half, bts_half, bts_zero]; rfl
theorem bts_3 : bts 0 3 = [0, 1] := by rw [bts_half, bts_half, bts_zero]; rfl
theorem new_8 : newE 1 8 = 0 := by
  have h : cnt 8 = 1 := by rw [← bts_length 8 0, bts_8]; rfl
  unfold newE
  rw [h]
  rfl
theorem all_9 : allE 1 8 [⟨0, voteX⟩] voteX 9 = 0 := by
  unfold allE
  rw [bts_9]
  decide +kernel
theorem all_3 : allE 1 8 [⟨0, voteX⟩] voteX 3 = 60 := by
  unfold allE
  rw [bts_3]
  decide +kernel
theorem build_vote (w : World) : (Instr.build 33 #[(0, .int .i64 2), (1, .int .i64 1), (2, .int .i64 1), (3, .int .i64 1)]).run Tryd.prog w = .ok (.agg (stmC voteX)) w := run_build w _ _ _ (by kernel_rfl)
def alivePost (w : World) (e : Ending) (w' : World) : Prop := e = .returned (.bool true) ∧ Below w.heap.size w w'
set_option maxHeartbeats 1000000 in
set_option maxRecDepth 100000 in
theorem alive_any (w : World) (hT : Tab w) : Calls Tryd.prog 6 #[] w (alivePost w) := by
  have HT := Lib.hid hT
  have hnew := new_ok 1 8 w (by decide) new_8
  have h9 : ∀ (S : Nat → Prop) g w, Sg w S g 1 8 [⟨0, voteX⟩] → Tab w → Calls Tryd.prog 13 #[.pointer (some ⟨g, 0, none⟩), .agg (stmC voteX), .int .u32 9] w fun e w' => e = .returned (.int .i64 0) ∧ Below w.heap.size w w' := fun S g w h hT => by
    have := sall_any S g 1 8 [⟨0, voteX⟩] voteX 9 w h vote_wf (by decide) (by decide) hT
    rw [all_9] at this
    exact this
  have h3 : ∀ (S : Nat → Prop) g w, Sg w S g 1 8 [⟨0, voteX⟩] → Tab w → Calls Tryd.prog 13 #[.pointer (some ⟨g, 0, none⟩), .agg (stmC voteX), .int .u32 3] w fun e w' => e = .returned (.int .i64 60) ∧ Below w.heap.size w w' := fun S g w h hT => by
    have := sall_any S g 1 8 [⟨0, voteX⟩] voteX 3 w h vote_wf (by decide) (by decide) hT
    rw [all_3] at this
    exact this
  have hi : ∀ (S : Nat → Prop) g w, Sg w S g 1 8 [] → Calls Tryd.prog 9 #[.pointer (some ⟨g, 0, none⟩), .agg (shrC ⟨0, voteX⟩)] w fun e w' => e = .returned (.int .i64 0) ∧ Sg w' (moreB S w w') g 1 8 [⟨0, voteX⟩] ∧ Turn S w w' := fun S g w h => by
    have := issue_any S g 1 8 [] ⟨0, voteX⟩ w h zero_wf (by decide)
    rw [show issL 1 [] ⟨0, voteX⟩ = [⟨0, voteX⟩] by decide +kernel, show repE 1 (Shr.mk 0 voteX).k = 0 by decide +kernel] at this
    exact this
  clear hT
  have HH := Lib.hid (And.intro h9 (And.intro h3 hi))
  clear h9 h3 hi
  go_enter Tryd.func6, Tryd.ntmps6
  go_wp2_with (first
    | (go_at_call 7; refine hnew.mono ?_; rintro e w1 ⟨g, rfl, hS1, hb1⟩; have hx2 : Blk (w1.alloc (.cells (stmC voteX) 33)) w1.heap.size 33 (stmC voteX) := Blk.new _ _ _; have hS2 := hS1.below ((Below.refl _ _).alloc (Nat.le_refl _) (.cells (stmC voteX) 33)))
    | (refine wpList_build rfl _ _ rfl #[(0, .int .i64 2), (1, .int .i64 1), (2, .int .i64 1), (3, .int .i64 1)] rfl (build_vote _) ?_)
    | (refine wpList_store_new rfl _ _ _ rfl w1 (stmC voteX) rfl rfl _ _ (by kernel_rfl) rfl (by kernel_rfl) ?_)
    | (refine wpList_row_at rfl _ _ rfl w1.heap.size rfl _ _ _ _ hx2 Tryd.underlying33 rfl (by kernel_rfl) ?_)
    | (refine wpList_row_at rfl _ _ rfl w1.heap.size rfl _ _ _ _ hx3 Tryd.underlying33 rfl (by kernel_rfl) ?_)
    | (refine wpList_row_at rfl _ _ rfl w1.heap.size rfl _ _ _ _ hx4 Tryd.underlying33 rfl (by kernel_rfl) ?_)
    | (refine wpList_build rfl _ _ rfl #[(0, .int .i64 0), (1, .agg (stmC voteX))] rfl (build_shr _ voteX _) ?_)
    | (go_at_call 9; refine (HH.out.2.2 _ g _ hS2).mono ?_; rintro e w3 ⟨rfl, hS3, ht3⟩; have hb3 : Below w.heap.size w w3 := ((hb1.alloc hb1.size (.cells (stmC voteX) 33)).trans (ht3.below (From.fresh w w1) (by have := hb1.size; simp; omega))); have hx3 : Blk w3 w1.heap.size 33 (stmC voteX) := ht3.blk hx2 (fun h => by have := h.2; omega))
    | (go_at_call 13; (with_reducible refine (HH.out.1 _ g _ hS3 ?_).mono ?_); exact HT.out.kept hb3; rintro e w4 ⟨rfl, hb4⟩; have hx4 : Blk w4 w1.heap.size 33 (stmC voteX) := hx3.below hb4 hx3.lt; have hS4 := hS3.below hb4)
    | (go_at_call 13; (with_reducible refine (HH.out.2.1 _ g _ hS4 ?_).mono ?_); exact HT.out.kept (hb3.trans (hb4.mono hb3.size)); rintro e w5 ⟨rfl, hb5⟩))
  go_ret
  exact ⟨rfl, nxt (nxt hb3 hb4 hb3.size) hb5 (nxt hb3 hb4 hb3.size).size⟩
end Go.Proofs.YtonnenbiihfboaaDoor
