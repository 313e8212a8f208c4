/-
  Texts of one layer in one: OneB, ListB, ReadB, TakeB, ParB.
-/
import Derived.Test.YtgmejaiifibfoaaGreatDoorB1
import Derived.Test.YtgmejaiifibfoaaGreatDoorT2
import Derived.Deep.CutRange
import Derived.Test.YtgmejaiifibfoaaGreatDoorB2

/-
  The next timeout of a reader in a block, by the code: a closure that knows the block's View.
-/
set_option linter.unusedSimpArgs false
set_option linter.unusedVariables false
set_option maxRecDepth 10000
namespace Go.Proofs.YtgmejaiifibfoaaGreatDoor
open Go.RowKit Go.Maps Go.Lib
open L3 (Blk Reads Rdr leaves numS failS rdN)
open L11 (Crt zeroC crtL crtC mayV takeC crtInfo crtC_ones)

theorem fitB_any (n : Int) (w : World) : Calls Tryz.prog 117 #[.int .i64 n] w fun e w' => e = .returned (.int .i64 (fitB n)) ∧ w = w' := by
  by_cases h : 1073741824 < n
  · have e : fitB n = -1 := if_pos h
    rw [e]
    clear e
    go_enter Tryz.func117, Tryz.ntmps117
    go_wp2
    go_ret
    exact ⟨rfl, rfl⟩
  · have e : fitB n = n := if_neg h
    rw [e]
    clear e
    go_enter Tryz.func117, Tryz.ntmps117
    go_wp2
    go_ret
    exact ⟨rfl, rfl⟩
theorem c_take (g : Nat) (p : List UInt8 × Int) (w : World) (h : Rdr w g p) : Calls Tryz.prog 70 #[.pointer (some ⟨g, 0, none⟩)] w fun e w' => e = .returned (.agg (crtC (takeC p).1)) ∧ leaves g (takeC p).2 w w' := L11.take_any g p w h
theorem build_tm (s v : Int) (c : Crt) (w : World) : (Instr.build 26 #[(0, .int .i64 s), (1, .int .i64 v), (2, .agg (crtC c))]).run Tryz.prog w = .ok (.agg (tmC ⟨s, v, c⟩)) w := run_build w _ _ _ (by kernel_rfl)
theorem grown_drew {w W : World} {r : Option Nat} (h : w.grownBy W r) : w.grownBy W.drew r := ⟨h.os, h.tape, h.output, h.size, h.block⟩
/-- What is held while a timeout is read. -/
structure OneAt (w : World) (g G : Nat) (v : Int) (W : World) : Prop where
  gc : W.cell? ⟨G, 0, none⟩ = some (.int .i64 v)
  re : Blk W w.heap.size 26 (tmC zeroT)
  gr : w.grownBy W (some g)
theorem cell_grown {w W : World} {g G i : Nat} {u : Value} (h : w.cell? ⟨G, i, none⟩ = some u) (hg : w.grownBy W (some g)) (hne : G ≠ g) : W.cell? ⟨G, i, none⟩ = some u := by
  have hlt : G < w.heap.size := L2.cell_in h
  rw [World.cell?_of_block (w := w) (w' := W) (a := ⟨G, i, none⟩) (hg.block G hlt (fun e => hne (by injection e)))]
  exact h
theorem OneAt.next {w W W' : World} {g G : Nat} {v : Int} {q : List UInt8 × Int} (h : OneAt w g G v W) (hl : leaves g q W W') (hg : g < w.heap.size) (hne : G ≠ g) : OneAt w g G v W' :=
  ⟨cell_grown h.gc hl.2 hne, h.re.grown hl.2 (fun e => by injection e with e; omega), L3.grown_trans h.gr hl.2⟩
set_option maxHeartbeats 4000000 in
set_option maxRecDepth 100000 in
theorem one_any (g G : Nat) (v : Int) (p : List UInt8 × Int) (w : World) (h : Rdr w g p) (hG : w.cell? ⟨G, 0, none⟩ = some (.int .i64 v)) (hne : G ≠ g) :
    Calls Tryz.prog 119 #[.pointer (some ⟨g, 0, none⟩), .pointer (some ⟨G, 0, none⟩)] w fun e w' => e = .returned (.agg (tmC (oneT v p).1)) ∧ leaves g (oneT v p).2 w w' := by
  have hg := h.lt
  have hS0 : OneAt w g G v ((w.alloc (.cells (tmC zeroT) 26)).drew) := by
    refine ⟨?_, (tmo_new w _ zeroT).drew, grown_drew (World.grownBy_alloc w _ _)⟩
    exact cell_grown (g := g) hG (grown_drew (World.grownBy_alloc w _ _)) hne
  have hR1 : Rdr (w.alloc (.cells (tmC zeroT) 26)) g p := rdr_alloc h _
  have hR0 : Rdr ((w.alloc (.cells (tmC zeroT) 26)).drew) g p := rdr_below hR1 (Below.refl _ (w.alloc (.cells (tmC zeroT) 26))).drew hR1.lt
  clear hR1
  obtain ⟨n, en⟩ : ∃ n, n = numV p := ⟨_, rfl⟩
  obtain ⟨q, eq⟩ : ∃ q, q = numS p := ⟨_, rfl⟩
  obtain ⟨c, ec⟩ : ∃ c, c = (takeC q).1 := ⟨_, rfl⟩
  obtain ⟨r, er⟩ : ∃ r, r = (takeC q).2 := ⟨_, rfl⟩
  have hn := fun W h => c_rnum g p W h
  have ht := fun W h => c_take g q W h
  rw [← en, ← eq] at hn
  rw [← ec, ← er] at ht
  have hX : oneT v p = (⟨fitB n, v, c⟩, r) := by unfold oneT; rw [← en, ← eq, ← ec, ← er]
  have HH := Lib.hid (And.intro hn ht)
  rw [hX]
  clear hn ht en eq ec er hX hG h
  go_enter Tryz.func119, Tryz.ntmps119
  go_upto_region 1 with fail
  refine wp_region_K (OneAt w g G v) [0, 3, 4, 5] (by kernel_rfl) ?_
  refine wpK_quiet (f := 5) (by kernel_rfl) (fun _ x _ _ _ h => by cases x <;> exact h) hS0 [0, 3, 4, 5] _ _ (by kernel_rfl) (by kernel_rfl) (by kernel_rfl) ?_
  have ne : Nonempty (WorldIn (OneAt w g G v)) := ⟨⟨_, hS0⟩⟩
  have g0 : ∀ y : WorldIn (OneAt w g G v), y.w.cell? ⟨G, 0, none⟩ = some (.int .i64 v) := fun y => y.h.gc
  conv => arg 5; simp [pick]
  iterate 4 go_big_quiet_step (fail)
  refine wpQuiet_nil ?_
  obtain ⟨w0, hw0⟩ : ∃ w0, w0 = (w.alloc (.cells (tmC zeroT) 26)).drew := ⟨_, rfl⟩
  rw [← hw0] at hS0 hR0 ⊢
  clear hw0 ne g0
  refine wpK_step 1 (by kernel_rfl) rfl ?_
  go_wp2_with (go_at_call 39; refine (HH.out.1 _ hR0).mono ?_; rintro e w1 ⟨rfl, hl1⟩)
  have hS1 := hS0.next hl1 hg hne
  refine stepQ.mk ⟨fun _ => hS1, ?_⟩
  refine wpK_step 2 (by kernel_rfl) rfl ?_
  go_wp2_with (go_at_call 117; refine (fitB_any _ _).mono ?_; rintro e w1' ⟨rfl, rfl⟩)
  refine stepQ.mk ⟨fun _ => hS1, ?_⟩
  refine wpK_step 6 (by kernel_rfl) rfl ?_
  go_wp2_with (go_at_call 70; refine (HH.out.2 _ hl1.1).mono ?_; rintro e w2 ⟨rfl, hl2⟩)
  have hS2 := hS1.next hl2 hg hne
  refine stepQ.mk ⟨fun _ => hS2, ?_⟩
  refine wpK_step 7 (by kernel_rfl) rfl ?_
  refine wpList_build rfl _ _ rfl #[(0, .int .i64 (fitB n)), (1, .int .i64 v), (2, .agg (crtC c))] rfl (build_tm _ _ _ _) ?_
  go_wp2
  refine stepQ.mk ⟨fun _ => hS2, ?_⟩
  refine wpK_seq [8] _ _ _ (by kernel_rfl) ?_
  conv => arg 4; simp [pick]
  go_wp2_with (first
    | (refine wpList_store_row rfl _ _ _ rfl w.heap.size (tmC ⟨fitB n, v, c⟩) rfl rfl _ _ hS2.re tmInfo rfl (tmC_ones _) ?_))
  (try simp only [Exit.inBlock, Exit.then, Act.put])
  refine bodyPost_ret (v := .agg (tmC ⟨fitB n, v, c⟩)) (results_row rfl _ _ w.heap.size rfl _ _ _ _ (blk_setRow hS2.re) Tryz.underlying26 rfl tmInfo) rfl ?_
  exact ⟨rfl, rdr_row hl2.1 hg _, grown_row hS2.gr (Nat.le_refl _) _⟩
end Go.Proofs.YtgmejaiifibfoaaGreatDoor

/-
  The next list of a reader, by the code: a generic function that is handed how one is read.
-/
set_option linter.unusedSimpArgs false
set_option linter.unusedVariables false
set_option maxRecDepth 10000
namespace Go.Proofs.YtgmejaiifibfoaaGreatDoor
open Go.RowKit Go.Maps Go.Lib
open L3 (Blk Reads Rdr leaves numS failS rdN mostV mostS)
open L11 (Crt zeroC crtL crtC mayV takeC crtInfo crtC_ones)

theorem row_leaves {w w' : World} {base size n g : Nat} {e : TypeId} {v : Value} {xs : List Value} (h : w.ownsRow base e size v n xs) (hg : w.grownBy w' (some g)) (hb : g < base) : w'.ownsRow base e size v n xs := by
  refine ⟨h.1, ?_⟩
  rcases h.2 with h0 | ⟨g', cap, cur, rfl, hb', hh, rest⟩
  · exact .inl h0
  · exact .inr ⟨g', cap, cur, rfl, hb', by rw [hg.block g' (Array.getElem?_eq_some_iff.1 hh).1 (fun e => by injection e with e; omega)]; exact hh, rest⟩
theorem leaves_own {w W W' : World} {g : Nat} {q : List UInt8 × Int} {row : Option Nat} (h : leaves g q w W) (hg : W.grownBy W' row) (hr : ∀ k, row = some k → w.heap.size ≤ k) (hlt : g < w.heap.size) : leaves g q w W' := by
  have hb : Below w.heap.size W W' := (Below.refl _ _).grown hg h.2.size hr
  exact ⟨rdr_below h.1 hb hlt, ⟨hb.os.trans h.2.os, hb.tape.trans h.2.tape, hb.output.trans h.2.output, Nat.le_trans h.2.size hb.size, fun k hk hne => (hb.block k hk).trans (h.2.block k hk hne)⟩⟩
theorem leaves_alloc {w W : World} {g : Nat} {q : List UInt8 × Int} (h : leaves g q w W) (o : Obj) : leaves g q w (W.alloc o) := ⟨rdr_alloc h.1 o, L3.grown_trans h.2 (World.grownBy_alloc _ _ _)⟩
theorem mostV_rng (m : Int) (p : List UInt8 × Int) (hm : 0 ≤ m) : 0 ≤ mostV m p ∧ mostV m p ≤ m := by unfold L3.mostV; split <;> omega
theorem tm_parts : ∃ i : TypeInfo, Tryz.prog.info? 26 = some i ∧ i.zero = some (.agg (tmC zeroT)) ∧ i.size = 10 ∧ i.bytes = 72 := by
  have h : (Tryz.prog.info? 26).map (fun i => (i.zero, i.size, i.bytes)) = some (some (.agg (tmC zeroT)), 10, 72) := by kernel_rfl
  exact info_parts h
theorem tx_parts : ∃ i : TypeInfo, Tryz.prog.info? 32 = some i ∧ i.zero = some (.agg (txC zeroX)) ∧ i.size = 7 ∧ i.bytes = 88 := by
  have h : (Tryz.prog.info? 32).map (fun i => (i.zero, i.size, i.bytes)) = some (some (.agg (txC zeroX)), 7, 88) := by kernel_rfl
  exact info_parts h
theorem slice_tm (t : Tmo) (w : World) : (Instr.buildSlice 27 1 #[(0, .agg (tmC t))]).run Tryz.prog w = .ok (.slice (some ⟨w.heap.size, 0, none⟩) 1 1) (w.alloc (.cells (tmC t) 26)) := by kernel_rfl
theorem slice_tx (t : Txx) (w : World) : (Instr.buildSlice 28 1 #[(0, .agg (txC t))]).run Tryz.prog w = .ok (.slice (some ⟨w.heap.size, 0, none⟩) 1 1) (w.alloc (.cells (txC t) 32)) := by kernel_rfl
theorem one_tmL (a : Tmo) : ∀ u ∈ tmL a, u.oneCell' = true := by intro u hu; simp [tmL] at hu; rcases hu with rfl | rfl | rfl | rfl | rfl | rfl | rfl | rfl | rfl | rfl <;> rfl
theorem one_txL (a : Txx) : ∀ u ∈ txL a, u.oneCell' = true := by intro u hu; simp [txL] at hu; rcases hu with rfl | rfl | rfl | rfl | rfl | rfl | rfl <;> rfl
/-- What a list that was read leaves: a row of the call's own, the reader behind it. -/
def listed {α : Type} (T : TypeId) (f : α → List Value) (k g : Nat) (L : List α) (q : List UInt8 × Int) (w : World) (e : Ending) (w' : World) : Prop :=
  ∃ v, e = .returned v ∧ w'.ownsRow w.heap.size T k v L.length (L.flatMap f) ∧ leaves g q w w'
theorem renters_Ts : ∀ args w, (callFunc 119 args).run Tryz.prog w = .ok (.enter 119 args) w := enters_of Tryz.func119 (by kernel_rfl) rfl
set_option maxHeartbeats 2000000 in
set_option maxRecDepth 100000 in
theorem readTs_any (g G : Nat) (v : Int) (most : Int) (p : List UInt8 × Int) (w : World) (h : Rdr w g p) (hG : w.cell? ⟨G, 0, none⟩ = some (.int .i64 v)) (hne : G ≠ g) (hm0 : 0 ≤ most) (hm : most ≤ 100) :
    Calls Tryz.prog 118 #[.pointer (some ⟨g, 0, none⟩), .int .i64 most, .func (.func 119) #[] #[.pointer (some ⟨G, 0, none⟩)]] w (listed 26 tmL 10 g (listG (oneT v) (mostV most p).toNat (mostS most p)) (itG (oneT v) (mostV most p).toNat (mostS most p)) w) := by
  have eg := renters_Ts
  obtain ⟨i0, hi, hz0, hz1, hz2⟩ := tm_parts
  have hlt := h.lt
  have hr := mostV_rng most p hm0
  have hM := L3.rmost_any g p most w h
  have HF := Lib.hid (fun (z : List UInt8 × Int) (W : World) (hl : leaves g z w W) => one_any g G v z W hl.1 (cell_grown hG hl.2 hne) hne)
  obtain ⟨s, es⟩ : ∃ s, s = mostS most p := ⟨_, rfl⟩
  obtain ⟨n, en⟩ : ∃ n, n = (mostV most p).toNat := ⟨_, rfl⟩
  have eN : mostV most p = (n : Int) := by rw [en, Int.toNat_of_nonneg hr.1]
  have hn : n ≤ 100 := by omega
  rw [eN, ← es] at hM
  rw [← es, ← en]
  have HM := Lib.hid hM
  clear hM hr es en eN hG h
  go_enter Tryz.func118, Tryz.ntmps118
  go_wp2_with (first
    | (go_at_call 102; refine HM.out.mono ?_; rintro e w1 ⟨rfl, hl1⟩))
  go_loopw [7, 11] (fun l i wr => ∃ k : Nat, i = .int .i64 k ∧ k ≤ n ∧ wr.ownsRow w.heap.size 26 10 l (listG (oneT v) k s).length ((listG (oneT v) k s).flatMap tmL) ∧ leaves g (itG (oneT v) k s) w wr) (fun _ i _ => n - (RowKit.intOf i).toNat)
  case atStart => exact ⟨0, rfl, Nat.zero_le _, ⟨by simp [listG], .inl ⟨rfl, by simp [listG]⟩⟩, hl1⟩
  case round =>
    obtain ⟨k, rfl, hk, hrow, hl⟩ := hrel
    clear hl1
    by_cases hlk : k < n
    · have hC := HF.out _ wr hl
      have hsn := listG_snoc (oneT v) k s
      have hlen := listG_len (oneT v) k s
      have hit : itG (oneT v) (k + 1) s = ((oneT v) (itG (oneT v) k s)).2 := rfl
      obtain ⟨z, ez⟩ : ∃ z, z = itG (oneT v) k s := ⟨_, rfl⟩
      obtain ⟨F, eF⟩ : ∃ F, F = listG (oneT v) k s := ⟨_, rfl⟩
      rw [← ez] at hC hsn hit hl
      rw [← eF] at hsn hlen hrow
      obtain ⟨x, ex⟩ : ∃ x, x = ((oneT v) z).1 := ⟨_, rfl⟩
      obtain ⟨z', ez'⟩ : ∃ z', z' = ((oneT v) z).2 := ⟨_, rfl⟩
      rw [← ex] at hC hsn
      rw [← ez'] at hC hit
      have hF : F.length ≤ 100 := by omega
      have HC := Lib.hid hC
      have HS := Lib.hid (And.intro hsn hit)
      clear hC hsn hit ez eF ex ez' hlen
      go_wp2_with (first
        | (go_at_fn 119; refine HC.out.mono ?_; rintro e w2 ⟨rfl, hl2⟩
           have hr2 := (row_leaves hrow hl2.2 hlt).alloc (.cells (tmC x) 26)
           have hyb : Blk (w2.alloc (.cells (tmC x) 26)) w2.heap.size 26 (tmC x) := Blk.new _ _ _
           have hl3 := leaves_alloc (hl.trans hl2) (.cells (tmC x) 26)
           have hs3 := hl3.2.size)
        | (refine wpList_buildSlice rfl _ _ _ rfl #[(0, .agg (tmC x))] rfl (slice_tm x _) ?_)
        | (at_builtin; refine L3.wpList_append_any _ rfl _ _ 27 rfl w.heap.size 26 i0 _ 10 72 Tryz.underlying27 hi hz0 hz1 hz2 rfl (by decide) _ F.length (F.flatMap tmL) rfl hr2 (w2.heap.size + 1) (some ⟨w2.heap.size, 0, none⟩) 1 1 (tmL x) rfl (reads_one (k := 10) rfl hyb) (one_tmL x) (by unfold maxLen; omega) (by omega) hs3 ?_
           intro v4 w4 hr4 hg4 hat4))
      go_round
      case rel => exact ⟨k + 1, by go_num, by omega, by rw [HS.out.1, List.length_append, List.flatMap_append]; simpa using hr4, by rw [HS.out.2]; exact leaves_own hl3 hg4 (fun i e => (hr2.lt i e).1) hlt⟩
      case measure => simp [RowKit.intOf]; omega
    · obtain rfl : k = n := by omega
      go_wp2_with fail
      go_ret
      exact ⟨_, rfl, hrow, hl⟩
theorem renters_Xs : ∀ args w, (callFunc 72 args).run Tryz.prog w = .ok (.enter 72 args) w := enters_of Tryz.func72 (by kernel_rfl) rfl
set_option maxHeartbeats 2000000 in
set_option maxRecDepth 100000 in
theorem readXs_any (g : Nat) (most : Int) (p : List UInt8 × Int) (w : World) (h : Rdr w g p) (hT : ∀ W, w.grownBy W (some g) → Tabs W) (hm0 : 0 ≤ most) (hm : most ≤ 100) :
    Calls Tryz.prog 120 #[.pointer (some ⟨g, 0, none⟩), .int .i64 most, .func (.func 72) #[] #[]] w (listed 32 txL 7 g (listG takeT (mostV most p).toNat (mostS most p)) (itG takeT (mostV most p).toNat (mostS most p)) w) := by
  have eg := renters_Xs
  obtain ⟨i0, hi, hz0, hz1, hz2⟩ := tx_parts
  have hlt := h.lt
  have hr := mostV_rng most p hm0
  have hM := L3.rmost_any g p most w h
  have HF := Lib.hid (fun (z : List UInt8 × Int) (W : World) (hl : leaves g z w W) => take_any g z W hl.1 (fun W2 hg2 => hT W2 (L3.grown_trans hl.2 hg2)))
  obtain ⟨s, es⟩ : ∃ s, s = mostS most p := ⟨_, rfl⟩
  obtain ⟨n, en⟩ : ∃ n, n = (mostV most p).toNat := ⟨_, rfl⟩
  have eN : mostV most p = (n : Int) := by rw [en, Int.toNat_of_nonneg hr.1]
  have hn : n ≤ 100 := by omega
  rw [eN, ← es] at hM
  rw [← es, ← en]
  have HM := Lib.hid hM
  clear hM hr es en eN hT h
  go_enter Tryz.func120, Tryz.ntmps120
  go_wp2_with (first
    | (go_at_call 102; refine HM.out.mono ?_; rintro e w1 ⟨rfl, hl1⟩))
  go_loopw [7, 11] (fun l i wr => ∃ k : Nat, i = .int .i64 k ∧ k ≤ n ∧ wr.ownsRow w.heap.size 32 7 l (listG takeT k s).length ((listG takeT k s).flatMap txL) ∧ leaves g (itG takeT k s) w wr) (fun _ i _ => n - (RowKit.intOf i).toNat)
  case atStart => exact ⟨0, rfl, Nat.zero_le _, ⟨by simp [listG], .inl ⟨rfl, by simp [listG]⟩⟩, hl1⟩
  case round =>
    obtain ⟨k, rfl, hk, hrow, hl⟩ := hrel
    clear hl1
    by_cases hlk : k < n
    · have hC := HF.out _ wr hl
      have hsn := listG_snoc takeT k s
      have hlen := listG_len takeT k s
      have hit : itG takeT (k + 1) s = (takeT (itG takeT k s)).2 := rfl
      obtain ⟨z, ez⟩ : ∃ z, z = itG takeT k s := ⟨_, rfl⟩
      obtain ⟨F, eF⟩ : ∃ F, F = listG takeT k s := ⟨_, rfl⟩
      rw [← ez] at hC hsn hit hl
      rw [← eF] at hsn hlen hrow
      obtain ⟨x, ex⟩ : ∃ x, x = (takeT z).1 := ⟨_, rfl⟩
      obtain ⟨z', ez'⟩ : ∃ z', z' = (takeT z).2 := ⟨_, rfl⟩
      rw [← ex] at hC hsn
      rw [← ez'] at hC hit
      have hF : F.length ≤ 100 := by omega
      have HC := Lib.hid hC
      have HS := Lib.hid (And.intro hsn hit)
      clear hC hsn hit ez eF ex ez' hlen
      go_wp2_with (first
        | (go_at_fn 72; refine HC.out.mono ?_; rintro e w2 ⟨rfl, hl2⟩
           have hr2 := (row_leaves hrow hl2.2 hlt).alloc (.cells (txC x) 32)
           have hyb : Blk (w2.alloc (.cells (txC x) 32)) w2.heap.size 32 (txC x) := Blk.new _ _ _
           have hl3 := leaves_alloc (hl.trans hl2) (.cells (txC x) 32)
           have hs3 := hl3.2.size)
        | (refine wpList_buildSlice rfl _ _ _ rfl #[(0, .agg (txC x))] rfl (slice_tx x _) ?_)
        | (at_builtin; refine L3.wpList_append_any _ rfl _ _ 28 rfl w.heap.size 32 i0 _ 7 88 Tryz.underlying28 hi hz0 hz1 hz2 rfl (by decide) _ F.length (F.flatMap txL) rfl hr2 (w2.heap.size + 1) (some ⟨w2.heap.size, 0, none⟩) 1 1 (txL x) rfl (reads_one (k := 7) rfl hyb) (one_txL x) (by unfold maxLen; omega) (by omega) hs3 ?_
           intro v4 w4 hr4 hg4 hat4))
      go_round
      case rel => exact ⟨k + 1, by go_num, by omega, by rw [HS.out.1, List.length_append, List.flatMap_append]; simpa using hr4, by rw [HS.out.2]; exact leaves_own hl3 hg4 (fun i e => (hr2.lt i e).1) hlt⟩
      case measure => simp [RowKit.intOf]; omega
    · obtain rfl : k = n := by omega
      go_wp2_with fail
      go_ret
      exact ⟨_, rfl, hrow, hl⟩
end Go.Proofs.YtgmejaiifibfoaaGreatDoor

/-
  The next block of a reader, right or not, by the code: whatever is left of its bytes.
-/
set_option linter.unusedSimpArgs false
set_option linter.unusedVariables false
set_option maxRecDepth 10000
namespace Go.Proofs.YtgmejaiifibfoaaGreatDoor
open Go.RowKit Go.Maps Go.Lib
open L3 (Blk Reads Rdr leaves numS failS rdN mostV mostS)
open L6 (Turn)
open L11 (Crt zeroC crtL crtC mayV takeC crtInfo crtC_ones)

/-! What is read is bounded -/
theorem takeC_wf (p : List UInt8 × Int) : (takeC p).1.wf := by
  unfold L11.takeC
  split
  · exact L11.zeroC_wf
  · exact L11.readC_wf p
theorem takeT_wf (p : List UInt8 × Int) : (takeT p).1.wf 1000000 := by
  rw [take_read]
  unfold endT
  split
  · exact zeroX_wf _
  · exact readT_wf p
theorem numV_pos (p : List UInt8 × Int) : 0 ≤ numV p := (num_at p).1
theorem listG_wf {α : Type} (one : List UInt8 × Int → α × (List UInt8 × Int)) (Q : α → Prop) (h : ∀ q, Q (one q).1) (n : Nat) (p : List UInt8 × Int) : ∀ t ∈ listG one n p, Q t := by
  intro t ht
  unfold listG at ht
  obtain ⟨k, _, rfl⟩ := List.mem_map.1 ht
  exact h _
theorem readB_wf (p : List UInt8 × Int) : (readB p).1.wf := by
  obtain ⟨v, c, q, s, n, s2, m, s3, ev, ec, es, en, es2, em, es3, hz⟩ := readB_parts p
  rw [hz]
  have hc := takeC_wf (rS p)
  rw [ec] at hc
  have r1 := mostV_rng 10 q (by omega)
  have r2 := mostV_rng 8 s2 (by omega)
  have hv : inI v := by rw [ev]; exact fitB_in _ (numV_pos p)
  refine ⟨hv, fitB_in _ (numV_pos _), fitB_in _ (numV_pos _), fitB_in _ (numV_pos _), hc, ?_, ?_, ?_, ?_⟩
  · exact listG_wf _ (fun t : Tmo => t.wf) (fun q => ⟨fitB_in _ (numV_pos _), hv, takeC_wf _⟩) _ _
  · exact listG_wf _ (fun t : Txx => t.wf 1000000) (fun q => takeT_wf q) _ _
  · show (listG (oneT v) n s).length ≤ 1000
    rw [listG_len, en]; omega
  · show (listG takeT m s3).length ≤ 1000
    rw [listG_len, em]; omega

/-- A block's lists, in memory from B on. -/
def LiesF (B : Nat) (w : World) (b : Blo) (P T : Value) : Prop :=
  ∃ A c D d, P = .slice A b.proof.length c ∧ T = .slice D b.txs.length d ∧ Rd tmL 10 w A b.proof ∧ Rd txL 7 w D b.txs ∧ (∀ ad, A = some ad → B ≤ ad.block) ∧ (∀ ad, D = some ad → B ≤ ad.block)
theorem LiesF.lies {B : Nat} {w : World} {b : Blo} {P T : Value} (h : LiesF B w b P T) : Lies w b P T := by
  obtain ⟨A, c, D, d, h1, h2, h3, h4, _⟩ := h
  exact ⟨A, c, D, d, h1, h2, h3, h4⟩
theorem LiesF.turn {B : Nat} {S : Nat → Prop} {w w' : World} {b : Blo} {P T : Value} (h : LiesF B w b P T) (ht : Turn S w w') (hS : ∀ k, S k → k < B) : LiesF B w' b P T := by
  obtain ⟨A, c, D, d, h1, h2, h3, h4, h5, h6⟩ := h
  exact ⟨A, c, D, d, h1, h2, h3.kept ht (Off.of_ge h5 hS), h4.kept ht (Off.of_ge h6 hS), h5, h6⟩
theorem LiesF.le {B B' : Nat} {w : World} {b : Blo} {P T : Value} (h : LiesF B w b P T) (hB : B' ≤ B) : LiesF B' w b P T := by
  obtain ⟨A, c, D, d, h1, h2, h3, h4, h5, h6⟩ := h
  exact ⟨A, c, D, d, h1, h2, h3, h4, fun ad e => Nat.le_trans hB (h5 ad e), fun ad e => Nat.le_trans hB (h6 ad e)⟩
theorem liesF_zero (B : Nat) (w : World) : LiesF B w zeroB (.slice none 0 0) (.slice none 0 0) := ⟨none, 0, none, 0, rfl, rfl, Rd.nil, Rd.nil, fun ad e => (by cases e), fun ad e => (by cases e)⟩
theorem turn_cell (w : World) (g i : Nat) (u : Value) : Turn (fun k => k = g) w (w.setCell ⟨g, i, none⟩ u) :=
  ⟨rfl, rfl, rfl, by simp [World.setCell], fun k hk hn => Below.heap_setCell w ⟨g, i, none⟩ u k hn⟩
theorem turn_leaves {w w' : World} {g : Nat} (h : w.grownBy w' (some g)) : Turn (fun k => k = g) w w' := L6.Turn.of_grown h (fun k e => by injection e with e; exact e.symm)
theorem build_bk (v r h a : Int) (c : Crt) (w : World) : (Instr.build 30 #[(0, .int .i64 v), (1, .int .i64 r), (2, .int .i64 h), (3, .int .i64 a), (4, .agg (crtC c))]).run Tryz.prog w = .ok (.agg (bloC ⟨v, r, h, a, c, [], []⟩ (.slice none 0 0) (.slice none 0 0))) w := run_build w _ _ _ (by kernel_rfl)
/-- What holds of the world while a block is read. -/
structure RdAt (w : World) (g G : Nat) (b : Blo) (P T : Value) (q : List UInt8 × Int) (W : World) : Prop where
  rdr : Rdr W g q
  re : Blk W w.heap.size 30 (bloC zeroB (.slice none 0 0) (.slice none 0 0))
  bx : Blk W G 30 (bloC b P T)
  gr : w.grownBy W (some g)
  lt : g < w.heap.size ∧ w.heap.size < G
section
variable {w W W' : World} {g G : Nat} {b : Blo} {P T : Value} {q q' : List UInt8 × Int}
theorem RdAt.next (h : RdAt w g G b P T q W) (hl : leaves g q' W W') : RdAt w g G b P T q' W' := by
  have hg := h.lt
  exact ⟨hl.1, h.re.grown hl.2 (fun e => by injection e with e; omega), h.bx.grown hl.2 (fun e => by injection e with e; omega), L3.grown_trans h.gr hl.2, hg⟩
theorem RdAt.set_ (h : RdAt w g G b P T q W) (i : Nat) (u : Value) (b' : Blo) (P' T' : Value) (he : (bloC b P T).setIfInBounds i u = bloC b' P' T') : RdAt w g G b' P' T' q (W.setCell ⟨G, i, none⟩ u) := by
  have hg := h.lt
  refine ⟨rdr_set h.rdr (by omega) u, h.re.far (by show w.heap.size ≠ G; omega) u, ?_, grown_new h.gr (by omega) u, hg⟩
  rw [← he]
  exact h.bx.set_ i u
theorem RdAt.mk' {w2 : World} (h : Rdr w g q') (hl : leaves g q (w.alloc (.cells (bloC zeroB (.slice none 0 0) (.slice none 0 0)) 30)) w2) (b : Blo) (P T : Value) : RdAt w g w2.heap.size b P T q (w2.alloc (.cells (bloC b P T) 30)) := by
  have hg := h.lt
  have hs := hl.2.size
  simp only [World.alloc, Array.size_push] at hs
  exact ⟨rdr_alloc hl.1 _, ((blo_new w _ zeroB _ _).grown hl.2 (fun e => by injection e with e; omega)).alloc _, blo_new _ _ _ _ _, L3.grown_trans (L3.grown_trans (World.grownBy_alloc w _ _) hl.2) (World.grownBy_alloc _ _ _), hg, by omega⟩
end
set_option maxHeartbeats 4000000 in
set_option maxRecDepth 100000 in
theorem readB_any (g : Nat) (p : List UInt8 × Int) (w : World) (h : Rdr w g p) (hT : ∀ W, w.grownBy W (some g) → Tabs W) :
    Calls Tryz.prog 98 #[.pointer (some ⟨g, 0, none⟩)] w fun e w' => ∃ P T, e = .returned (.agg (bloC (readB p).1 P T)) ∧ LiesF (w.heap.size + 1) w' (readB p).1 P T ∧ leaves g (readB p).2 w w' := by
  have HR0 : Hid (Rdr (w.alloc (.cells (bloC zeroB (.slice none 0 0) (.slice none 0 0)) 30)) g p) := Lib.hid (rdr_alloc h _)
  have HM := Lib.hid (fun w2 q (hl : leaves g q (w.alloc (.cells (bloC zeroB (.slice none 0 0) (.slice none 0 0)) 30)) w2) (b : Blo) (P T : Value) => RdAt.mk' h hl b P T)
  obtain ⟨v, c, q, s, n, s2, m, s3, ev, ec, es, en, es2, em, es3, hz⟩ := readB_parts p
  rw [hz]
  clear hz
  have hn0 := fun W h => c_rnum g p W h
  have hn1 := fun W h => c_rnum g (numS p) W h
  have hn2 := fun W h => c_rnum g (numS (numS p)) W h
  have hn3 := fun W h => c_rnum g (numS (numS (numS p))) W h
  have ht := fun W h => c_take g (rS p) W h
  rw [ec] at ht
  have hrs : numS (numS (numS (numS p))) = rS p := rfl
  rw [hrs] at hn3
  obtain ⟨q4, e4⟩ : ∃ x, x = rS p := ⟨_, rfl⟩
  rw [← e4] at ht hn3
  obtain ⟨z3, f3⟩ : ∃ x, x = numV (numS (numS (numS p))) := ⟨_, rfl⟩
  obtain ⟨q3, e3⟩ : ∃ x, x = numS (numS (numS p)) := ⟨_, rfl⟩
  rw [← f3, ← e3] at hn3
  rw [← f3]
  rw [← e3] at hn2
  obtain ⟨z2, f2⟩ : ∃ x, x = numV (numS (numS p)) := ⟨_, rfl⟩
  obtain ⟨q2, e2⟩ : ∃ x, x = numS (numS p) := ⟨_, rfl⟩
  rw [← f2, ← e2] at hn2
  rw [← f2]
  rw [← e2] at hn1
  obtain ⟨z1, f1⟩ : ∃ x, x = numV (numS p) := ⟨_, rfl⟩
  obtain ⟨q1, e1⟩ : ∃ x, x = numS p := ⟨_, rfl⟩
  rw [← f1, ← e1] at hn1
  rw [← f1]
  rw [← e1] at hn0
  obtain ⟨z0, f0⟩ : ∃ x, x = numV p := ⟨_, rfl⟩
  rw [← f0] at hn0 ev
  have HH := Lib.hid (And.intro hn0 (And.intro hn1 (And.intro hn2 (And.intro hn3 ht))))
  have hl2 : listG (oneT v) n s = listG (oneT v) (mostV 10 q).toNat (mostS 10 q) := by rw [en, es]
  have hi2 : s2 = itG (oneT v) (mostV 10 q).toNat (mostS 10 q) := by rw [es2, en, es]
  have hl3 : listG takeT m s3 = listG takeT (mostV 8 s2).toNat (mostS 8 s2) := by rw [em, es3]
  have hi3 : itG takeT m s3 = itG takeT (mostV 8 s2).toNat (mostS 8 s2) := by rw [em, es3]
  have HRT := Lib.hid (fun (W : World) (G : Nat) (hr : Rdr W g q) (hG : W.cell? ⟨G, 0, none⟩ = some (.int .i64 v)) (hne : G ≠ g) => readTs_any g G v 10 q W hr hG hne (by omega) (by omega))
  have HRX := Lib.hid (fun (W : World) (hr : Rdr W g s2) (hg : w.grownBy W (some g)) => readXs_any g 8 s2 W hr (fun W2 h2 => hT W2 (L3.grown_trans hg h2)) (by omega) (by omega))
  rw [← hl2, ← hi2] at HRT
  rw [← hl3, ← hi3] at HRX
  obtain ⟨L, eL⟩ : ∃ L, L = listG (oneT v) n s := ⟨_, rfl⟩
  obtain ⟨X, eX⟩ : ∃ X, X = listG takeT m s3 := ⟨_, rfl⟩
  obtain ⟨qe, eqe⟩ : ∃ q, q = itG takeT m s3 := ⟨_, rfl⟩
  rw [← eL] at HRT ⊢
  rw [← eX, ← eqe] at HRX ⊢
  have EV := Lib.hid ev
  clear hn0 hn1 hn2 hn3 ht ev ec es en es2 em es3 hrs e4 f3 e3 f2 e2 f1 e1 f0 hl2 hi2 hl3 hi3 eL eX eqe hT h
  go_enter Tryz.func98, Tryz.ntmps98
  go_upto_region 1 with fail
  refine name_world (fun w0 hw0 => ?_)
  have hR0 : Rdr w0 g p := by rw [hw0]; exact HR0.out
  have HM0 : Hid (∀ w2 q, leaves g q w0 w2 → ∀ (b : Blo) (P T : Value), RdAt w g w2.heap.size b P T q (w2.alloc (.cells (bloC b P T) 30))) := Lib.hid (by rw [hw0]; exact HM.out)
  clear hw0 HM HR0
  go_upto_region 2 with (first
    | (go_at_call 39; (with_reducible refine (HH.out.1 _ hR0).mono ?_); rintro e w1 ⟨rfl, hl1⟩; have hd1 := hl1.1)
    | (go_at_call 39; (with_reducible refine (HH.out.2.1 _ hd1).mono ?_); rintro e w2 ⟨rfl, hl2⟩; have hd2 := hl2.1)
    | (go_at_call 39; (with_reducible refine (HH.out.2.2.1 _ hd2).mono ?_); rintro e w3 ⟨rfl, hl3⟩; have hd3 := hl3.1)
    | (go_at_call 39; (with_reducible refine (HH.out.2.2.2.1 _ hd3).mono ?_); rintro e w4 ⟨rfl, hl4⟩; have hd4 := hl4.1)
    | (go_at_call 117; refine (fitB_any _ _).mono ?_; rintro e x ⟨rfl, rfl⟩)
    | (go_at_call 70; refine (HH.out.2.2.2.2 _ hd4).mono ?_; rintro e w5 ⟨rfl, hl5⟩)
    | (refine wpList_build rfl _ _ rfl #[(0, .int .i64 (fitB z0)), (1, .int .i64 (fitB z1)), (2, .int .i64 (fitB z2)), (3, .int .i64 (fitB z3)), (4, .agg (crtC c))] rfl (build_bk _ _ _ _ _ _) ?_)
    | (refine wpList_store_new rfl _ _ _ rfl _ (bloC ⟨fitB z0, fitB z1, fitB z2, fitB z3, c, [], []⟩ (.slice none 0 0) (.slice none 0 0)) rfl rfl _ _ bloInfo rfl (bloC_ones _ _ _ _ _ _ _) ?_))
  have hA := HM0.out _ _ ((((hl1.trans hl2).trans hl3).trans hl4).trans hl5) ⟨fitB z0, fitB z1, fitB z2, fitB z3, c, [], []⟩ (.slice none 0 0) (.slice none 0 0)
  obtain ⟨G, hG⟩ : ∃ G, G = w5.heap.size := ⟨_, rfl⟩
  rw [← hG] at hA
  rw [← hG]
  refine name_world (fun w6 hw6 => ?_)
  rw [← hw6] at hA
  clear hG hd1 hd2 hd3 hd4 hl1 hl2 hl3 hl4 hl5 hw6 HM0 hR0 HH
  rw [← EV.out] at hA ⊢
  have hlt := hA.lt
  have hG0 : w6.cell? ⟨G, 0, none⟩ = some (.int .i64 v) := hA.bx.cell 0
  have hTs := HRT.out w6 G hA.rdr hG0 (by omega)
  go_upto_region 3 with (first
    | (go_at_call 118; refine hTs.mono ?_; rintro e w7 ⟨v7, rfl, hr7, hl7⟩
       obtain ⟨A7, c7, rfl, hp7, ho7⟩ := Rd.of_row (f := tmL) (k := 10) (fun _ => rfl) hr7
       have hA7 := hA.next hl7
       have f12 := hA7.bx.frozen 12
       have b12 : w7.cell? ⟨G, 12, none⟩ = some (.slice none 0 0) := hA7.bx.cell 12))
  have hB := hA7.set_ 12 (.slice A7 L.length c7) ⟨v, fitB z1, fitB z2, fitB z3, c, L, []⟩ (.slice A7 L.length c7) (.slice none 0 0) rfl
  have hpB : Rd tmL 10 (w7.setCell ⟨G, 12, none⟩ (.slice A7 L.length c7)) A7 L := hp7.kept (turn_cell _ _ _ _) (Off.of_ge (B := w6.heap.size) (fun ad e => (ho7 ad e).1) (fun k hk => by have := hA.bx.lt; omega))
  have hoB : ∀ ad, A7 = some ad → w.heap.size + 1 ≤ ad.block := fun ad e => by have h1 := (ho7 ad e).1; have h2 := hA.bx.lt; have h3 := hA.lt.2; omega
  have HOFF : Off (fun k => k = G) A7 := Off.of_ge (B := w6.heap.size) (fun ad e => (ho7 ad e).1) (fun k hk => by have := hA.bx.lt; omega)
  refine name_world (fun w8 hw8 => ?_)
  rw [← hw8] at hB hpB
  clear hw8 hTs hA hA7 hr7 hl7 f12 b12 hp7 ho7 hG0
  have hXs := HRX.out w8 hB.rdr hB.gr
  go_upto_region 4 with (first
    | (go_at_call 120; refine hXs.mono ?_; rintro e w9 ⟨v9, rfl, hr9, hl9⟩
       obtain ⟨A9, c9, rfl, hp9, ho9⟩ := Rd.of_row (f := txL) (k := 7) (fun _ => rfl) hr9
       have hB9 := hB.next hl9
       have f13 := hB9.bx.frozen 13
       have b13 : w9.cell? ⟨G, 13, none⟩ = some (.slice none 0 0) := hB9.bx.cell 13))
  have hC := hB9.set_ 13 (.slice A9 X.length c9) ⟨v, fitB z1, fitB z2, fitB z3, c, L, X⟩ (.slice A7 L.length c7) (.slice A9 X.length c9) rfl
  have hpC : Rd tmL 10 (w9.setCell ⟨G, 13, none⟩ (.slice A9 X.length c9)) A7 L := (hpB.kept (turn_leaves hl9.2) (Off.of_ge hoB (fun k hk => by omega))).kept (turn_cell _ _ _ _) HOFF
  have hxC : Rd txL 7 (w9.setCell ⟨G, 13, none⟩ (.slice A9 X.length c9)) A9 X := hp9.kept (turn_cell _ _ _ _) (Off.of_ge (B := w8.heap.size) (fun ad e => (ho9 ad e).1) (fun k hk => by have := hB.bx.lt; omega))
  have hoC : ∀ ad, A9 = some ad → w.heap.size + 1 ≤ ad.block := fun ad e => by have h1 := (ho9 ad e).1; have h2 := hB.bx.lt; have h3 := hB.lt.2; omega
  refine name_world (fun w10 hw10 => ?_)
  rw [← hw10] at hC hpC hxC
  clear hw10 hXs hB hB9 hr9 hl9 f13 b13 hp9 ho9 hpB
  go_wp2_with (first
    | (refine wpList_row_at rfl _ _ rfl G rfl _ _ _ _ hC.bx Tryz.underlying30 rfl bloInfo ?_)
    | (refine wpList_store_row rfl _ _ _ rfl w.heap.size (bloC ⟨v, fitB z1, fitB z2, fitB z3, c, L, X⟩ (.slice A7 L.length c7) (.slice A9 X.length c9)) rfl rfl _ _ hC.re bloInfo rfl (bloC_ones _ _ _ _ _ _ _) ?_))
  (try simp only [Exit.inBlock, Exit.then])
  refine bodyPost_ret (v := .agg (bloC ⟨v, fitB z1, fitB z2, fitB z3, c, L, X⟩ (.slice A7 L.length c7) (.slice A9 X.length c9))) (results_row rfl _ _ w.heap.size rfl _ _ _ _ (blk_setRow hC.re) Tryz.underlying30 rfl bloInfo) rfl ?_
  refine ⟨.slice A7 L.length c7, .slice A9 X.length c9, rfl, ?_, rdr_row hC.rdr hlt.1 _, grown_row hC.gr (Nat.le_refl _) _⟩
  have ht := turn_row w10 w.heap.size (bloC ⟨v, fitB z1, fitB z2, fitB z3, c, L, X⟩ (.slice A7 L.length c7) (.slice A9 X.length c9))
  exact ⟨A7, c7, A9, c9, rfl, rfl, hpC.kept ht (Off.of_ge hoB (fun k hk => by omega)), hxC.kept ht (Off.of_ge hoC (fun k hk => by omega)), hoB, hoC⟩
end Go.Proofs.YtgmejaiifibfoaaGreatDoor

/-
  The next block of a reader, and the block of all bytes: by the code.
-/
set_option linter.unusedSimpArgs false
set_option linter.unusedVariables false
set_option maxRecDepth 10000
namespace Go.Proofs.YtgmejaiifibfoaaGreatDoor
open Go.RowKit Go.Maps Go.Lib
open L3 (Blk Reads Rdr leaves numS failS rdN mostV mostS doneV)
open L6 (Turn)
open L11 (Crt zeroC crtL crtC mayV takeC crtInfo crtC_ones)

theorem failedB_any (g : Nat) (p : List UInt8 × Int) (w : World) (h : Rdr w g p) : Calls Tryz.prog 99 #[.pointer (some ⟨g, 0, none⟩)] w fun e w' => e = .returned (.bool (decide (p.2 ≠ 0))) ∧ w = w' := by
  have hR := L3.rrest_any g p w h
  have hD := L3.rdone_any g p w h
  have he : p.2 ≠ 0 → p.1 = [] := by obtain ⟨_, _, _, _, _, _, he⟩ := h; exact he
  by_cases h0 : p.1.length = 0
  · rw [done_eq p he h0] at hD
    obtain ⟨e, hp⟩ : ∃ e, e = p.2 := ⟨_, rfl⟩
    obtain ⟨n, hn⟩ : ∃ n, n = p.1.length := ⟨_, rfl⟩
    rw [← hn] at hR h0
    rw [← hp] at hD ⊢
    subst h0
    clear hp hn he h
    by_cases e0 : e = 0
    · subst e0
      go_enter Tryz.func99, Tryz.ntmps99
      go_wp2_with (first
        | (go_at_call 121; refine hR.mono ?_; rintro e w1 ⟨rfl, rfl⟩)
        | (go_at_call 41; refine hD.mono ?_; rintro e w1 ⟨rfl, rfl⟩))
      go_ret
      exact ⟨rfl, rfl⟩
    · have e1 : (e == 0) = false := by simpa using e0
      have e2 : (e != 0) = true := by simpa using e0
      have e3 : decide (e ≠ 0) = true := by simpa using e0
      rw [e3]
      clear e0 e3
      go_enter Tryz.func99, Tryz.ntmps99
      go_wp2_with (first
        | (go_at_call 121; refine hR.mono ?_; rintro e w1 ⟨rfl, rfl⟩)
        | (go_at_call 41; refine hD.mono ?_; rintro e w1 ⟨rfl, rfl⟩))
      go_ret
      exact ⟨rfl, rfl⟩
  · have e0 : p.2 = 0 := by
      rcases Classical.em (p.2 = 0) with h1 | h1
      · exact h1
      · exact absurd (by rw [he h1]; rfl) h0
    rw [e0]
    obtain ⟨n, hn⟩ : ∃ n, n = p.1.length := ⟨_, rfl⟩
    rw [← hn] at hR h0
    have h1 : ((n : Int) == 0) = false := by simp; omega
    clear hn hD he h h0 e0
    go_enter Tryz.func99, Tryz.ntmps99
    go_wp2_with (first
      | (go_at_call 121; refine hR.mono ?_; rintro e w1 ⟨rfl, rfl⟩))
    go_ret
    exact ⟨rfl, rfl⟩
theorem RdAt.below {w W W' : World} {g G : Nat} {b : Blo} {P T : Value} {q : List UInt8 × Int} (h : RdAt w g G b P T q W) (hb : Below W.heap.size W W') : RdAt w g G b P T q W' := by
  have hgr := h.gr
  exact ⟨rdr_below h.rdr hb h.rdr.lt, h.re.below hb h.re.lt, h.bx.below hb h.bx.lt, ⟨hb.os.trans hgr.os, hb.tape.trans hgr.tape, hb.output.trans hgr.output, Nat.le_trans hgr.size hb.size, fun k hk hne => (hb.block k (Nat.lt_of_lt_of_le hk hgr.size)).trans (hgr.block k hk hne)⟩, h.lt⟩
theorem LiesF.below {B : Nat} {w w' : World} {b : Blo} {P T : Value} (h : LiesF B w b P T) (hb : Below w.heap.size w w') : LiesF B w' b P T := h.turn (L6.Turn.of_keep (S := fun _ => False) hb) (fun k hk => absurd hk id)
/-- What is told of a block and left of its reader. -/
def took (g : Nat) (z : Blo × (List UInt8 × Int)) (w : World) (e : Ending) (w' : World) : Prop :=
  ∃ P T, e = .returned (.agg (bloC z.1 P T)) ∧ LiesF (w.heap.size + 1) w' z.1 P T ∧ leaves g z.2 w w'
theorem LiesF.form {B : Nat} {w : World} {b : Blo} {P T : Value} (h : LiesF B w b P T) : ∃ A n c D m d, P = .slice A n c ∧ T = .slice D m d := by
  obtain ⟨A, c, D, d, h1, h2, _⟩ := h
  exact ⟨A, _, c, D, _, d, h1, h2⟩
set_option maxHeartbeats 4000000 in
set_option maxRecDepth 100000 in
theorem takeB_any (g : Nat) (p : List UInt8 × Int) (w : World) (h : Rdr w g p) (hT : ∀ W, w.grownBy W (some g) → Tabs W) :
    Calls Tryz.prog 69 #[.pointer (some ⟨g, 0, none⟩)] w (took g (takeB p) w) := by
  have hwf := readB_wf p
  have hg0 := World.grownBy_alloc w (.cells (bloC zeroB (.slice none 0 0) (.slice none 0 0)) 30) (some g)
  have HR := Lib.hid (readB_any g p (w.alloc (.cells (bloC zeroB (.slice none 0 0) (.slice none 0 0)) 30)) (rdr_alloc h _) (fun W hW => hT W (L3.grown_trans hg0 hW)))
  have HM := Lib.hid (fun w2 q (hl : leaves g q (w.alloc (.cells (bloC zeroB (.slice none 0 0) (.slice none 0 0)) 30)) w2) (b : Blo) (P T : Value) => RdAt.mk' h hl b P T)
  have hsz : (w.alloc (.cells (bloC zeroB (.slice none 0 0) (.slice none 0 0)) 30)).heap.size = w.heap.size + 1 := by simp
  obtain ⟨r, hX⟩ : ∃ r, r = takeB p := ⟨_, rfl⟩
  rw [← hX]
  unfold takeB at hX
  obtain ⟨z, hz⟩ : ∃ z, z = readB p := ⟨_, rfl⟩
  rw [← hz] at hX HR hwf
  obtain ⟨b, q⟩ := z
  dsimp only at hX hwf
  have HR2 : Hid (Calls Tryz.prog 98 #[.pointer (some ⟨g, 0, none⟩)] (w.alloc (.cells (bloC zeroB (.slice none 0 0) (.slice none 0 0)) 30)) fun e w' => ∃ P T, e = .returned (.agg (bloC b P T)) ∧ LiesF (w.heap.size + 1 + 1) w' b P T ∧ leaves g q (w.alloc (.cells (bloC zeroB (.slice none 0 0) (.slice none 0 0)) 30)) w') := Lib.hid (by rw [← hsz]; exact HR.out)
  have HXX := Lib.hid hX
  have HT := Lib.hid hT
  have HWF := Lib.hid hwf
  clear hX hT hwf hz hg0 HR hsz h
  go_enter Tryz.func69, Tryz.ntmps69
  go_upto_region 1 with fail
  refine name_world (fun w0 hw0 => ?_)
  have HR3 : Hid (Calls Tryz.prog 98 #[.pointer (some ⟨g, 0, none⟩)] w0 fun e w' => ∃ P T, e = .returned (.agg (bloC b P T)) ∧ LiesF (w.heap.size + 1 + 1) w' b P T ∧ leaves g q w0 w') := Lib.hid (by rw [hw0]; exact HR2.out)
  have HM0 : Hid (∀ w2 q, leaves g q w0 w2 → ∀ (b : Blo) (P T : Value), RdAt w g w2.heap.size b P T q (w2.alloc (.cells (bloC b P T) 30))) := Lib.hid (by rw [hw0]; exact HM.out)
  clear hw0 HM HR2
  go_upto_region 2 with (first
    | (go_at_call 98; refine HR3.out.mono ?_; rintro e w2 ⟨P, T, rfl, hL2, hl2⟩; obtain ⟨A2, n2, c2, D2, m2, d2, rfl, rfl⟩ := hL2.form)
    | (refine wpList_store_new rfl _ _ _ rfl _ (bloC b (.slice A2 n2 c2) (.slice D2 m2 d2)) rfl rfl _ _ bloInfo rfl (bloC_ones _ _ _ _ _ _ _) ?_))
  have hA := HM0.out _ _ hl2 b (.slice A2 n2 c2) (.slice D2 m2 d2)
  have hLA := hL2.below (below_new w2 (.cells (bloC b (.slice A2 n2 c2) (.slice D2 m2 d2)) 30))
  obtain ⟨G, hG⟩ : ∃ G, G = w2.heap.size := ⟨_, rfl⟩
  rw [← hG] at hA
  rw [← hG]
  refine name_world (fun w3 hw3 => ?_)
  rw [← hw3] at hA hLA
  clear hG hl2 hL2 hw3 HM0 HR3
  have hck := checkB_any b _ _ w3 HWF.out hLA.lies (HT.out _ hA.gr)
  obtain ⟨k, hk⟩ : ∃ k, k = checkV b := ⟨_, rfl⟩
  have hX := HXX.out
  rw [← hk] at hck hX
  obtain ⟨q2, hq2⟩ : ∃ q2, q2 = failS k q := ⟨_, rfl⟩
  rw [← hq2] at hX
  have HF := Lib.hid (fun W (hR : Rdr W g q) => L3.fail_any g q k W hR)
  rw [← hq2] at HF
  have HK := Lib.hid hck
  have HX := Lib.hid hX
  clear hck hX hk hq2 HXX
  go_upto_region 3 with (first
    | (refine wpList_row_at rfl _ _ rfl G rfl _ _ _ _ hA.bx Tryz.underlying30 rfl bloInfo ?_)
    | (go_at_call 43; refine HK.out.mono ?_; unfold gives; rintro e w4 ⟨rfl, hb4⟩; have hB := hA.below hb4; have hLB := hLA.below hb4; have hrB := hB.rdr)
    | (go_at_call 68; refine (HF.out _ hrB).mono ?_; rintro e w5 ⟨rfl, hl5⟩; have hC := hB.next hl5; have hLC := hLB.turn (turn_leaves hl5.2) (fun k hk => by have := hB.lt; omega)))
  have hlt := hC.lt
  clear hA hLA hB hLB hrB hl5 hb4 HK HF
  have hf := failedB_any g q2 w5 hC.rdr
  by_cases hq : q2.2 ≠ 0
  · have hX := HX.out
    rw [if_pos hq] at hX
    rw [decide_eq_true hq] at hf
    have HX2 := Lib.hid hX
    clear HX hX hq
    go_wp2_with (first
      | (go_at_call 99; refine hf.mono ?_; rintro e w6 ⟨rfl, rfl⟩)
      | (refine wpList_build rfl _ _ rfl #[] rfl (build_zeroB _) ?_)
      | (refine wpList_store_row rfl _ _ _ rfl w.heap.size (bloC zeroB (.slice none 0 0) (.slice none 0 0)) rfl rfl _ _ hC.re bloInfo rfl (bloC_ones _ _ _ _ _ _ _) ?_))
    (try simp only [Exit.inBlock, Exit.then])
    refine bodyPost_ret (v := .agg (bloC zeroB (.slice none 0 0) (.slice none 0 0))) (results_row rfl _ _ w.heap.size rfl _ _ _ _ (blk_setRow hC.re) Tryz.underlying30 rfl bloInfo) rfl ?_
    rw [HX2.out]
    exact ⟨_, _, rfl, liesF_zero _ _, rdr_row hC.rdr hlt.1 _, grown_row hC.gr (Nat.le_refl _) _⟩
  · have hX := HX.out
    rw [if_neg hq] at hX
    rw [decide_eq_false hq] at hf
    have HX2 := Lib.hid hX
    clear HX hX hq
    go_wp2_with (first
      | (go_at_call 99; refine hf.mono ?_; rintro e w6 ⟨rfl, rfl⟩)
      | (refine wpList_row_at rfl _ _ rfl G rfl _ _ _ _ hC.bx Tryz.underlying30 rfl bloInfo ?_)
      | (refine wpList_store_row rfl _ _ _ rfl w.heap.size (bloC b (.slice A2 n2 c2) (.slice D2 m2 d2)) rfl rfl _ _ hC.re bloInfo rfl (bloC_ones _ _ _ _ _ _ _) ?_))
    (try simp only [Exit.inBlock, Exit.then])
    refine bodyPost_ret (v := .agg (bloC b (.slice A2 n2 c2) (.slice D2 m2 d2))) (results_row rfl _ _ w.heap.size rfl _ _ _ _ (blk_setRow hC.re) Tryz.underlying30 rfl bloInfo) rfl ?_
    rw [HX2.out]
    exact ⟨_, _, rfl, (hLC.turn (turn_row _ _ _) (fun k hk => by omega)).le (by omega), rdr_row hC.rdr hlt.1 _, grown_row hC.gr (Nat.le_refl _) _⟩
end Go.Proofs.YtgmejaiifibfoaaGreatDoor

/-
  The block of all bytes: by the code.
-/
set_option linter.unusedSimpArgs false
set_option linter.unusedVariables false
set_option maxRecDepth 10000
namespace Go.Proofs.YtgmejaiifibfoaaGreatDoor
open Go.RowKit Go.Maps Go.Lib
open L3 (Blk Reads Rdr leaves numS failS rdN mostV mostS doneV)
open L6 (Turn)
open L11 (Crt zeroC crtL crtC mayV takeC crtInfo crtC_ones)

/-- What Parse tells. -/
def parsed (l : List UInt8) (w : World) (e : Ending) (w' : World) : Prop :=
  ∃ P T, e = .returned (.tuple #[.agg (bloC (parseB l).1 P T), .int .i64 (parseB l).2]) ∧ Lies w' (parseB l).1 P T ∧ Below w.heap.size w w'
/-- The same, and its lists lie in new blocks. -/
def parsedF (l : List UInt8) (w : World) (e : Ending) (w' : World) : Prop :=
  ∃ P T, e = .returned (.tuple #[.agg (bloC (parseB l).1 P T), .int .i64 (parseB l).2]) ∧ LiesF w.heap.size w' (parseB l).1 P T ∧ Below w.heap.size w w'
theorem below_leaves {B : Nat} {w W W' : World} {g : Nat} {q : List UInt8 × Int} (h : Below B w W) (hl : leaves g q W W') (hg : B ≤ g) (hB : B ≤ W.heap.size) : Below B w W' := h.grown hl.2 hB (fun k hk => by injection hk with hk; omega)
theorem checkV_wf {b : Blo} (h : checkV b = 0) : b.wf := by
  obtain ⟨hh, hp, hr⟩ := check_zero h
  obtain ⟨h1, h2, h3, h4, h5⟩ := head_facts hh
  obtain ⟨p1, p2, p3, p4, p5⟩ := parent_facts hp
  have mw : ∀ c : Crt, mayV c = true → c.wf := fun c hc => by
    by_cases h0 : c.kind = 0
    · rw [L11.may_zero hc h0]; exact L11.zeroC_wf
    · by_cases h1 : c.kind = 1
      · obtain ⟨a0, a1, a2, a3⟩ := L11.may_one hc h1
        obtain ⟨s1, s2, s3, s4, s5⟩ := L11.sg_facts a0
        exact ⟨by unfold L11.inI; omega, by unfold L11.inI; omega, by unfold L11.inI; omega, by unfold L11.inI; omega, by unfold L11.inI; omega, by unfold L11.inI; omega, by unfold L11.inU; omega, by unfold L11.inU; omega⟩
      · obtain ⟨a, a0, a1, a2, a3⟩ := L11.may_two hc h0 h1
        obtain ⟨s1, s2, s3, s4, s5⟩ := L11.sg_facts a0
        exact ⟨by unfold L11.inI; omega, by unfold L11.inI; omega, by unfold L11.inI; omega, by unfold L11.inI; omega, by unfold L11.inI; omega, by unfold L11.inI; omega, by unfold L11.inU; omega, by unfold L11.inU; omega⟩
  refine ⟨by unfold inI; omega, by unfold inI; omega, by unfold inI; omega, by unfold inI; omega, mw _ p1, fun t ht => ?_, fun t ht => (right_wf (h5 t ht)).le (by omega), ?_, ?_⟩
  · obtain ⟨t1, t2, t3, t4⟩ := tmo_facts (proof_mem hr t ht).1
    exact ⟨by unfold inI; omega, by unfold inI; omega, mw _ t4⟩
  · have := proof_len hr; omega
  · omega
end Go.Proofs.YtgmejaiifibfoaaGreatDoor
