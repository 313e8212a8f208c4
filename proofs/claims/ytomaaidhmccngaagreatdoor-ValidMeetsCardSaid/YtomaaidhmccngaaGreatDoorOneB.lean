/-
  The next timeout of a reader in a block, by the code: a closure that knows the block's View.
-/
import Derived.Test.YtomaaidhmccngaaGreatDoorB1
import Derived.Test.YtomaaidhmccngaaGreatDoorTakeT
import Derived.Deep.CutRange
set_option linter.unusedSimpArgs false
set_option linter.unusedVariables false
set_option maxRecDepth 10000
namespace Go.Proofs.YtomaaidhmccngaaGreatDoor
open Go.RowKit Go.Maps Go.Lib
open L3 (Blk Reads Rdr leaves numS failS rdN)
open L11 (Crt zeroC crtL crtC mayV takeC crtInfo crtC_ones)

theorem fitB_any (n : Int) (w : World) : Calls Tryz.prog 182 #[.int .i64 n] w fun e w' => e = .returned (.int .i64 (fitB n)) ∧ w = w' := by
  by_cases h : 1073741824 < n
  · have e : fitB n = -1 := if_pos h
    rw [e]
    clear e
    go_enter Tryz.func182, Tryz.ntmps182
    go_wp2
    go_ret
    exact ⟨rfl, rfl⟩
  · have e : fitB n = n := if_neg h
    rw [e]
    clear e
    go_enter Tryz.func182, Tryz.ntmps182
    go_wp2
    go_ret
    exact ⟨rfl, rfl⟩
theorem c_take (g : Nat) (p : List UInt8 × Int) (w : World) (h : Rdr w g p) : Calls Tryz.prog 184 #[.pointer (some ⟨g, 0, none⟩)] w fun e w' => e = .returned (.agg (crtC (takeC p).1)) ∧ leaves g (takeC p).2 w w' := L11.take_any g p w h
theorem build_tm (s v : Int) (c : Crt) (w : World) : (Instr.build 31 #[(0, .int .i64 s), (1, .int .i64 v), (2, .agg (crtC c))]).run Tryz.prog w = .ok (.agg (tmC ⟨s, v, c⟩)) w := run_build w _ _ _ (by kernel_rfl)
theorem grown_drew {w W : World} {r : Option Nat} (h : w.grownBy W r) : w.grownBy W.drew r := ⟨h.os, h.tape, h.output, h.size, h.block⟩
/-- What is held while a timeout is read. -/
structure OneAt (w : World) (g G : Nat) (v : Int) (W : World) : Prop where
  gc : W.cell? ⟨G, 0, none⟩ = some (.int .i64 v)
  re : Blk W w.heap.size 31 (tmC zeroT)
  gr : w.grownBy W (some g)
theorem cell_grown {w W : World} {g G i : Nat} {u : Value} (h : w.cell? ⟨G, i, none⟩ = some u) (hg : w.grownBy W (some g)) (hne : G ≠ g) : W.cell? ⟨G, i, none⟩ = some u := by
  have hlt : G < w.heap.size := L2.cell_in h
  rw [World.cell?_of_block (w := w) (w' := W) (a := ⟨G, i, none⟩) (hg.block G hlt (fun e => hne (by injection e)))]
  exact h
theorem OneAt.next {w W W' : World} {g G : Nat} {v : Int} {q : List UInt8 × Int} (h : OneAt w g G v W) (hl : leaves g q W W') (hg : g < w.heap.size) (hne : G ≠ g) : OneAt w g G v W' :=
  ⟨cell_grown h.gc hl.2 hne, h.re.grown hl.2 (fun e => by injection e with e; omega), L3.grown_trans h.gr hl.2⟩
set_option maxHeartbeats 4000000 in
set_option maxRecDepth 100000 in
theorem one_any (g G : Nat) (v : Int) (p : List UInt8 × Int) (w : World) (h : Rdr w g p) (hG : w.cell? ⟨G, 0, none⟩ = some (.int .i64 v)) (hne : G ≠ g) :
    Calls Tryz.prog 186 #[.pointer (some ⟨g, 0, none⟩), .pointer (some ⟨G, 0, none⟩)] w fun e w' => e = .returned (.agg (tmC (oneT v p).1)) ∧ leaves g (oneT v p).2 w w' := by
  have hg := h.lt
  have hS0 : OneAt w g G v ((w.alloc (.cells (tmC zeroT) 31)).drew) := by
    refine ⟨?_, (tmo_new w _ zeroT).drew, grown_drew (World.grownBy_alloc w _ _)⟩
    exact cell_grown (g := g) hG (grown_drew (World.grownBy_alloc w _ _)) hne
  have hR1 : Rdr (w.alloc (.cells (tmC zeroT) 31)) g p := rdr_alloc h _
  have hR0 : Rdr ((w.alloc (.cells (tmC zeroT) 31)).drew) g p := rdr_below hR1 (Below.refl _ (w.alloc (.cells (tmC zeroT) 31))).drew hR1.lt
  clear hR1
  obtain ⟨n, en⟩ : ∃ n, n = numV p := ⟨_, rfl⟩
  obtain ⟨q, eq⟩ : ∃ q, q = numS p := ⟨_, rfl⟩
  obtain ⟨c, ec⟩ : ∃ c, c = (takeC q).1 := ⟨_, rfl⟩
  obtain ⟨r, er⟩ : ∃ r, r = (takeC q).2 := ⟨_, rfl⟩
  have hn := fun W h => c_rnum g p W h
  have ht := fun W h => c_take g q W h
  rw [← en, ← eq] at hn
  rw [← ec, ← er] at ht
  have hX : oneT v p = (⟨fitB n, v, c⟩, r) := by unfold oneT; rw [← en, ← eq, ← ec, ← er]
  have HH := Lib.hid (And.intro hn ht)
  rw [hX]
  clear hn ht en eq ec er hX hG h
  go_enter Tryz.func186, Tryz.ntmps186
  go_upto_region 1 with fail
  refine wp_region_K (OneAt w g G v) [0, 3, 4, 5] (by kernel_rfl) ?_
  refine wpK_quiet (f := 5) (by kernel_rfl) (fun _ x _ _ _ h => by cases x <;> exact h) hS0 [0, 3, 4, 5] _ _ (by kernel_rfl) (by kernel_rfl) (by kernel_rfl) ?_
  have ne : Nonempty (WorldIn (OneAt w g G v)) := ⟨⟨_, hS0⟩⟩
  have g0 : ∀ y : WorldIn (OneAt w g G v), y.w.cell? ⟨G, 0, none⟩ = some (.int .i64 v) := fun y => y.h.gc
  conv => arg 5; simp [pick]
  iterate 4 go_big_quiet_step (fail)
  refine wpQuiet_nil ?_
  obtain ⟨w0, hw0⟩ : ∃ w0, w0 = (w.alloc (.cells (tmC zeroT) 31)).drew := ⟨_, rfl⟩
  rw [← hw0] at hS0 hR0 ⊢
  clear hw0 ne g0
  refine wpK_step 1 (by kernel_rfl) rfl ?_
  go_wp2_with (go_at_call 183; refine (HH.out.1 _ hR0).mono ?_; rintro e w1 ⟨rfl, hl1⟩)
  have hS1 := hS0.next hl1 hg hne
  refine stepQ.mk ⟨fun _ => hS1, ?_⟩
  refine wpK_step 2 (by kernel_rfl) rfl ?_
  go_wp2_with (go_at_call 182; refine (fitB_any _ _).mono ?_; rintro e w1' ⟨rfl, rfl⟩)
  refine stepQ.mk ⟨fun _ => hS1, ?_⟩
  refine wpK_step 6 (by kernel_rfl) rfl ?_
  go_wp2_with (go_at_call 184; refine (HH.out.2 _ hl1.1).mono ?_; rintro e w2 ⟨rfl, hl2⟩)
  have hS2 := hS1.next hl2 hg hne
  refine stepQ.mk ⟨fun _ => hS2, ?_⟩
  refine wpK_step 7 (by kernel_rfl) rfl ?_
  refine wpList_build rfl _ _ rfl #[(0, .int .i64 (fitB n)), (1, .int .i64 v), (2, .agg (crtC c))] rfl (build_tm _ _ _ _) ?_
  go_wp2
  refine stepQ.mk ⟨fun _ => hS2, ?_⟩
  refine wpK_seq [8] _ _ _ (by kernel_rfl) ?_
  conv => arg 4; simp [pick]
  go_wp2_with (first
    | (refine wpList_store_row rfl _ _ _ rfl w.heap.size (tmC ⟨fitB n, v, c⟩) rfl rfl _ _ hS2.re tmInfo rfl (tmC_ones _) ?_))
  (try simp only [Exit.inBlock, Exit.then, Act.put])
  refine bodyPost_ret (v := .agg (tmC ⟨fitB n, v, c⟩)) (results_row rfl _ _ w.heap.size rfl _ _ _ _ (blk_setRow hS2.re) Tryz.underlying31 rfl tmInfo) rfl ?_
  exact ⟨rfl, rdr_row hl2.1 hg _, grown_row hS2.gr (Nat.le_refl _) _⟩
end Go.Proofs.YtomaaidhmccngaaGreatDoor
