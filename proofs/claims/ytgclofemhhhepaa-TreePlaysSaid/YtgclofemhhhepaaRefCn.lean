/-
  The document's tree, pruned: walked.
-/
import Derived.Test.YtgclofemhhhepaaRefC
set_option linter.unusedSimpArgs false
set_option linter.unusedVariables false
set_option maxRecDepth 10000
namespace Go.Proofs.Ytgclofemhhhepaa
open Go.RowKit Go.Maps Go.Lib
open L3 (Blk Reads block_of_add add_of_add)
open L6 (Turn moreB fresh From In)

theorem decide_mem_snoc {n x : Int} {l : List Int} : decide (n ∈ l ++ [x]) = (decide (n ∈ l) || decide (x = n)) := by
  rw [Bool.eq_iff_iff]
  simp only [List.mem_append, List.mem_singleton, decide_eq_true_eq, Bool.or_eq_true]
  constructor
  · rintro (h | h)
    · exact .inl h
    · exact .inr h.symm
  · rintro (h | h)
    · exact .inl h
    · exact .inr h.symm
/-- The two boxes that a call of the document lays at its start. -/
theorem boxes2 (w : World) (m r rd : Int) (A : Option Addr) (z c : Nat) :
    Blk ((w.alloc (.cells (rtC m r rd A z c) 30)).alloc (.cells (rtC 0 0 0 none 0 0) 30)) w.heap.size 30 (rtC m r rd A z c) ∧
    Blk ((w.alloc (.cells (rtC m r rd A z c) 30)).alloc (.cells (rtC 0 0 0 none 0 0) 30)) (w.heap.size + 1) 30 (rtC 0 0 0 none 0 0) ∧
    Below w.heap.size w ((w.alloc (.cells (rtC m r rd A z c) 30)).alloc (.cells (rtC 0 0 0 none 0 0) 30)) :=
  ⟨(Blk.new _ _ _).alloc _, by simpa using Blk.new (w.alloc (.cells (rtC m r rd A z c) 30)) 30 (rtC 0 0 0 none 0 0), ((Below.refl _ _).alloc (Nat.le_refl _) _).alloc (by simp) _⟩
set_option maxHeartbeats 4000000 in
set_option maxRecDepth 100000 in
theorem rprune_no (s : TS) (hs : s.wf) (A : Option Addr) (c : Nat) (hl : s.L.length ≤ 1000000) (n : Int) (w : World) (hr : Rd enL 16 w A s.L) (h : n = s.root ∨ lackE s n ≠ 0) :
    Calls Try.prog 12 #[.agg (rtC s.most s.root s.round A s.L.length c), .int .i64 n] w (RTPost A s (lackE s n) w) := by
  have HP := Lib.hid (fun W (hb : Below w.heap.size w W) h0 => rpath_no s hs A c hl n W (hr.below hb) h0)
  have HS := Lib.hid (fun X k g (hb : Below w.heap.size w X) (hg : w.heap.size ≤ g) => rt_same (A := A) (c := c) (s := s) (k := k) rfl hr hb hg)
  have hroot : n = s.root → lackE s n = 0 := fun e => if_pos (.inl e)
  obtain ⟨q, hq⟩ : ∃ q, q = lackE s n := ⟨_, rfl⟩
  rw [← hq] at h HP hroot ⊢
  obtain ⟨S, hS⟩ : ∃ S, S = s := ⟨_, rfl⟩
  have hS2 := hS
  obtain ⟨m, r, rd, L⟩ := s
  dsimp only at *
  rw [← hS] at HS ⊢
  obtain ⟨z, hz⟩ : ∃ z, z = L.length := ⟨_, rfl⟩
  rw [← hz] at HP HS ⊢
  obtain ⟨k0, k1, hb0⟩ := boxes2 w m r rd A z c
  obtain ⟨W0, hW0⟩ : ∃ W0, W0 = (w.alloc (.cells (rtC m r rd A z c) 30)).alloc (.cells (rtC 0 0 0 none 0 0) 30) := ⟨_, rfl⟩
  rw [← hW0] at k0 k1 hb0
  have hE : (w.alloc (.cells (rtC m r rd A z c) 30)).alloc (.cells #[.int .i64 0, .int .i64 0, .int .i64 0, .slice none 0 0] 30) = W0 := hW0.symm
  have c1 : W0.cell? ⟨w.heap.size, 1, none⟩ = some (.int .i64 r) := k0.cell 1
  clear hr hs hl hz hW0 hS hS2 hq
  go_enter Try.func12, Try.ntmps12
  go_upto_region 1 with fail
  clear hE
  by_cases hn : n = r
  · have hnq : (n == r) = true := by simpa using hn
    have HQ := Lib.hid (hroot hn)
    clear hn h hroot HP
    go_upto_region 2 with fail
    clear c1
    go_wp2_with (first
      | (refine wpList_row_at rfl _ _ rfl w.heap.size rfl _ _ _ _ k0 Try.underlying30 rfl rtInfo ?_)
      | (refine wpList_store_row rfl _ _ _ rfl (w.heap.size + 1) (rtC m r rd A z c) rfl rfl _ _ k1 rtInfo rfl (rtC_ones _ _ _ _ _ _) ?_)
      | go_in)
    (try simp only [Exit.inBlock, Exit.then])
    refine bodyPost_ret (results_row2 rfl _ _ (w.heap.size + 1) rfl _ rfl _ (rtC m r rd A z c) _ _ (blk_setRow k1) Try.underlying30 rfl rtInfo) rfl ?_
    rw [HQ.out]
    exact HS.out _ _ _ hb0 (Nat.le_succ _)
  · have hnq : (n == r) = false := by simpa using hn
    have hq0 : q ≠ 0 := h.resolve_left hn
    have hqb : (q != 0) = true := by simpa using hq0
    have H1 := Lib.hid (HP.out W0 hb0 hq0)
    clear hn h hroot HP hq0
    go_upto_region 3 with fail
    clear c1
    go_upto_region 4 with (first
      | (refine wpList_row_at rfl _ _ rfl w.heap.size rfl _ _ _ _ k0 Try.underlying30 rfl rtInfo ?_)
      | (go_at_call 28; refine H1.out.mono ?_; unfold gives; rintro e2 w2 ⟨rfl, hb2⟩)
      | go_in)
    have k2 := k0.below hb2 k0.lt
    have k3 := k1.below hb2 k1.lt
    have hbz := nxt hb0 hb2
    clear k0 k1 hb2
    go_wp2_with (first
      | (refine wpList_row_at rfl _ _ rfl w.heap.size rfl _ _ _ _ k2 Try.underlying30 rfl rtInfo ?_)
      | (refine wpList_store_row rfl _ _ _ rfl (w.heap.size + 1) (rtC m r rd A z c) rfl rfl _ _ k3 rtInfo rfl (rtC_ones _ _ _ _ _ _) ?_)
      | go_in)
    (try simp only [Exit.inBlock, Exit.then])
    refine bodyPost_ret (results_row2 rfl _ _ (w.heap.size + 1) rfl _ rfl _ (rtC m r rd A z c) _ _ (blk_setRow k3) Try.underlying30 rfl rtInfo) rfl ?_
    exact HS.out _ _ _ hbz (Nat.le_succ _)
end Go.Proofs.Ytgclofemhhhepaa
