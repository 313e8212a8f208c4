/-
  The next list of a reader, by the code: a generic function that is handed how one is read.
-/
import Derived.Test.YtomaaidhmccngaaGreatDoorOneB
set_option linter.unusedSimpArgs false
set_option linter.unusedVariables false
set_option maxRecDepth 10000
namespace Go.Proofs.YtomaaidhmccngaaGreatDoor
open Go.RowKit Go.Maps Go.Lib
open L3 (Blk Reads Rdr leaves numS failS rdN mostV mostS)
open L11 (Crt zeroC crtL crtC mayV takeC crtInfo crtC_ones)

theorem row_leaves {w w' : World} {base size n g : Nat} {e : TypeId} {v : Value} {xs : List Value} (h : w.ownsRow base e size v n xs) (hg : w.grownBy w' (some g)) (hb : g < base) : w'.ownsRow base e size v n xs := by
  refine ⟨h.1, ?_⟩
  rcases h.2 with h0 | ⟨g', cap, cur, rfl, hb', hh, rest⟩
  · exact .inl h0
  · exact .inr ⟨g', cap, cur, rfl, hb', by rw [hg.block g' (Array.getElem?_eq_some_iff.1 hh).1 (fun e => by injection e with e; omega)]; exact hh, rest⟩
theorem leaves_own {w W W' : World} {g : Nat} {q : List UInt8 × Int} {row : Option Nat} (h : leaves g q w W) (hg : W.grownBy W' row) (hr : ∀ k, row = some k → w.heap.size ≤ k) (hlt : g < w.heap.size) : leaves g q w W' := by
  have hb : Below w.heap.size W W' := (Below.refl _ _).grown hg h.2.size hr
  exact ⟨rdr_below h.1 hb hlt, ⟨hb.os.trans h.2.os, hb.tape.trans h.2.tape, hb.output.trans h.2.output, Nat.le_trans h.2.size hb.size, fun k hk hne => (hb.block k hk).trans (h.2.block k hk hne)⟩⟩
theorem leaves_alloc {w W : World} {g : Nat} {q : List UInt8 × Int} (h : leaves g q w W) (o : Obj) : leaves g q w (W.alloc o) := ⟨rdr_alloc h.1 o, L3.grown_trans h.2 (World.grownBy_alloc _ _ _)⟩
theorem mostV_rng (m : Int) (p : List UInt8 × Int) (hm : 0 ≤ m) : 0 ≤ mostV m p ∧ mostV m p ≤ m := by unfold L3.mostV; split <;> omega
theorem tm_parts : ∃ i : TypeInfo, Tryz.prog.info? 31 = some i ∧ i.zero = some (.agg (tmC zeroT)) ∧ i.size = 10 ∧ i.bytes = 72 := by
  have h : (Tryz.prog.info? 31).map (fun i => (i.zero, i.size, i.bytes)) = some (some (.agg (tmC zeroT)), 10, 72) := by kernel_rfl
  exact info_parts h
theorem tx_parts : ∃ i : TypeInfo, Tryz.prog.info? 133 = some i ∧ i.zero = some (.agg (txC zeroX)) ∧ i.size = 7 ∧ i.bytes = 88 := by
  have h : (Tryz.prog.info? 133).map (fun i => (i.zero, i.size, i.bytes)) = some (some (.agg (txC zeroX)), 7, 88) := by kernel_rfl
  exact info_parts h
theorem slice_tm (t : Tmo) (w : World) : (Instr.buildSlice 32 1 #[(0, .agg (tmC t))]).run Tryz.prog w = .ok (.slice (some ⟨w.heap.size, 0, none⟩) 1 1) (w.alloc (.cells (tmC t) 31)) := by kernel_rfl
theorem slice_tx (t : Txx) (w : World) : (Instr.buildSlice 55 1 #[(0, .agg (txC t))]).run Tryz.prog w = .ok (.slice (some ⟨w.heap.size, 0, none⟩) 1 1) (w.alloc (.cells (txC t) 133)) := by kernel_rfl
theorem one_tmL (a : Tmo) : ∀ u ∈ tmL a, u.oneCell' = true := by intro u hu; simp [tmL] at hu; rcases hu with rfl | rfl | rfl | rfl | rfl | rfl | rfl | rfl | rfl | rfl <;> rfl
theorem one_txL (a : Txx) : ∀ u ∈ txL a, u.oneCell' = true := by intro u hu; simp [txL] at hu; rcases hu with rfl | rfl | rfl | rfl | rfl | rfl | rfl <;> rfl
/-- What a list that was read leaves: a row of the call's own, the reader behind it. -/
def listed {α : Type} (T : TypeId) (f : α → List Value) (k g : Nat) (L : List α) (q : List UInt8 × Int) (w : World) (e : Ending) (w' : World) : Prop :=
  ∃ v, e = .returned v ∧ w'.ownsRow w.heap.size T k v L.length (L.flatMap f) ∧ leaves g q w w'
theorem renters_Ts : ∀ args w, (callFunc 186 args).run Tryz.prog w = .ok (.enter 186 args) w := enters_of Tryz.func186 (by kernel_rfl) rfl
set_option maxHeartbeats 2000000 in
set_option maxRecDepth 100000 in
theorem readTs_any (g G : Nat) (v : Int) (most : Int) (p : List UInt8 × Int) (w : World) (h : Rdr w g p) (hG : w.cell? ⟨G, 0, none⟩ = some (.int .i64 v)) (hne : G ≠ g) (hm0 : 0 ≤ most) (hm : most ≤ 100) :
    Calls Tryz.prog 185 #[.pointer (some ⟨g, 0, none⟩), .int .i64 most, .func (.func 186) #[] #[.pointer (some ⟨G, 0, none⟩)]] w (listed 31 tmL 10 g (listG (oneT v) (mostV most p).toNat (mostS most p)) (itG (oneT v) (mostV most p).toNat (mostS most p)) w) := by
  have eg := renters_Ts
  obtain ⟨i0, hi, hz0, hz1, hz2⟩ := tm_parts
  have hlt := h.lt
  have hr := mostV_rng most p hm0
  have hM := L3.rmost_any g p most w h
  have HF := Lib.hid (fun (z : List UInt8 × Int) (W : World) (hl : leaves g z w W) => one_any g G v z W hl.1 (cell_grown hG hl.2 hne) hne)
  obtain ⟨s, es⟩ : ∃ s, s = mostS most p := ⟨_, rfl⟩
  obtain ⟨n, en⟩ : ∃ n, n = (mostV most p).toNat := ⟨_, rfl⟩
  have eN : mostV most p = (n : Int) := by rw [en, Int.toNat_of_nonneg hr.1]
  have hn : n ≤ 100 := by omega
  rw [eN, ← es] at hM
  rw [← es, ← en]
  have HM := Lib.hid hM
  clear hM hr es en eN hG h
  go_enter Tryz.func185, Tryz.ntmps185
  go_wp2_with (first
    | (go_at_call 204; refine HM.out.mono ?_; rintro e w1 ⟨rfl, hl1⟩))
  go_loopw [7, 11] (fun l i wr => ∃ k : Nat, i = .int .i64 k ∧ k ≤ n ∧ wr.ownsRow w.heap.size 31 10 l (listG (oneT v) k s).length ((listG (oneT v) k s).flatMap tmL) ∧ leaves g (itG (oneT v) k s) w wr) (fun _ i _ => n - (RowKit.intOf i).toNat)
  case atStart => exact ⟨0, rfl, Nat.zero_le _, ⟨by simp [listG], .inl ⟨rfl, by simp [listG]⟩⟩, hl1⟩
  case round =>
    obtain ⟨k, rfl, hk, hrow, hl⟩ := hrel
    clear hl1
    by_cases hlk : k < n
    · have hC := HF.out _ wr hl
      have hsn := listG_snoc (oneT v) k s
      have hlen := listG_len (oneT v) k s
      have hit : itG (oneT v) (k + 1) s = ((oneT v) (itG (oneT v) k s)).2 := rfl
      obtain ⟨z, ez⟩ : ∃ z, z = itG (oneT v) k s := ⟨_, rfl⟩
      obtain ⟨F, eF⟩ : ∃ F, F = listG (oneT v) k s := ⟨_, rfl⟩
      rw [← ez] at hC hsn hit hl
      rw [← eF] at hsn hlen hrow
      obtain ⟨x, ex⟩ : ∃ x, x = ((oneT v) z).1 := ⟨_, rfl⟩
      obtain ⟨z', ez'⟩ : ∃ z', z' = ((oneT v) z).2 := ⟨_, rfl⟩
      rw [← ex] at hC hsn
      rw [← ez'] at hC hit
      have hF : F.length ≤ 100 := by omega
      have HC := Lib.hid hC
      have HS := Lib.hid (And.intro hsn hit)
      clear hC hsn hit ez eF ex ez' hlen
      go_wp2_with (first
        | (go_at_fn 186; refine HC.out.mono ?_; rintro e w2 ⟨rfl, hl2⟩
           have hr2 := (row_leaves hrow hl2.2 hlt).alloc (.cells (tmC x) 31)
           have hyb : Blk (w2.alloc (.cells (tmC x) 31)) w2.heap.size 31 (tmC x) := Blk.new _ _ _
           have hl3 := leaves_alloc (hl.trans hl2) (.cells (tmC x) 31)
           have hs3 := hl3.2.size)
        | (refine wpList_buildSlice rfl _ _ _ rfl #[(0, .agg (tmC x))] rfl (slice_tm x _) ?_)
        | (at_builtin; refine L3.wpList_append_any _ rfl _ _ 32 rfl w.heap.size 31 i0 _ 10 72 Tryz.underlying32 hi hz0 hz1 hz2 rfl (by decide) _ F.length (F.flatMap tmL) rfl hr2 (w2.heap.size + 1) (some ⟨w2.heap.size, 0, none⟩) 1 1 (tmL x) rfl (reads_one (k := 10) rfl hyb) (one_tmL x) (by unfold maxLen; omega) (by omega) hs3 ?_
           intro v4 w4 hr4 hg4 hat4))
      go_round
      case rel => exact ⟨k + 1, by go_num, by omega, by rw [HS.out.1, List.length_append, List.flatMap_append]; simpa using hr4, by rw [HS.out.2]; exact leaves_own hl3 hg4 (fun i e => (hr2.lt i e).1) hlt⟩
      case measure => simp [RowKit.intOf]; omega
    · obtain rfl : k = n := by omega
      go_wp2_with fail
      go_ret
      exact ⟨_, rfl, hrow, hl⟩
theorem renters_Xs : ∀ args w, (callFunc 188 args).run Tryz.prog w = .ok (.enter 188 args) w := enters_of Tryz.func188 (by kernel_rfl) rfl
set_option maxHeartbeats 2000000 in
set_option maxRecDepth 100000 in
theorem readXs_any (g : Nat) (most : Int) (p : List UInt8 × Int) (w : World) (h : Rdr w g p) (hT : ∀ W, w.grownBy W (some g) → Tabs W) (hm0 : 0 ≤ most) (hm : most ≤ 100) :
    Calls Tryz.prog 187 #[.pointer (some ⟨g, 0, none⟩), .int .i64 most, .func (.func 188) #[] #[]] w (listed 133 txL 7 g (listG takeT (mostV most p).toNat (mostS most p)) (itG takeT (mostV most p).toNat (mostS most p)) w) := by
  have eg := renters_Xs
  obtain ⟨i0, hi, hz0, hz1, hz2⟩ := tx_parts
  have hlt := h.lt
  have hr := mostV_rng most p hm0
  have hM := L3.rmost_any g p most w h
  have HF := Lib.hid (fun (z : List UInt8 × Int) (W : World) (hl : leaves g z w W) => take_any g z W hl.1 (fun W2 hg2 => hT W2 (L3.grown_trans hl.2 hg2)))
  obtain ⟨s, es⟩ : ∃ s, s = mostS most p := ⟨_, rfl⟩
  obtain ⟨n, en⟩ : ∃ n, n = (mostV most p).toNat := ⟨_, rfl⟩
  have eN : mostV most p = (n : Int) := by rw [en, Int.toNat_of_nonneg hr.1]
  have hn : n ≤ 100 := by omega
  rw [eN, ← es] at hM
  rw [← es, ← en]
  have HM := Lib.hid hM
  clear hM hr es en eN hT h
  go_enter Tryz.func187, Tryz.ntmps187
  go_wp2_with (first
    | (go_at_call 204; refine HM.out.mono ?_; rintro e w1 ⟨rfl, hl1⟩))
  go_loopw [7, 11] (fun l i wr => ∃ k : Nat, i = .int .i64 k ∧ k ≤ n ∧ wr.ownsRow w.heap.size 133 7 l (listG takeT k s).length ((listG takeT k s).flatMap txL) ∧ leaves g (itG takeT k s) w wr) (fun _ i _ => n - (RowKit.intOf i).toNat)
  case atStart => exact ⟨0, rfl, Nat.zero_le _, ⟨by simp [listG], .inl ⟨rfl, by simp [listG]⟩⟩, hl1⟩
  case round =>
    obtain ⟨k, rfl, hk, hrow, hl⟩ := hrel
    clear hl1
    by_cases hlk : k < n
    · have hC := HF.out _ wr hl
      have hsn := listG_snoc takeT k s
      have hlen := listG_len takeT k s
      have hit : itG takeT (k + 1) s = (takeT (itG takeT k s)).2 := rfl
      obtain ⟨z, ez⟩ : ∃ z, z = itG takeT k s := ⟨_, rfl⟩
      obtain ⟨F, eF⟩ : ∃ F, F = listG takeT k s := ⟨_, rfl⟩
      rw [← ez] at hC hsn hit hl
      rw [← eF] at hsn hlen hrow
      obtain ⟨x, ex⟩ : ∃ x, x = (takeT z).1 := ⟨_, rfl⟩
      obtain ⟨z', ez'⟩ : ∃ z', z' = (takeT z).2 := ⟨_, rfl⟩
      rw [← ex] at hC hsn
      rw [← ez'] at hC hit
      have hF : F.length ≤ 100 := by omega
      have HC := Lib.hid hC
      have HS := Lib.hid (And.intro hsn hit)
      clear hC hsn hit ez eF ex ez' hlen
      go_wp2_with (first
        | (go_at_fn 188; refine HC.out.mono ?_; rintro e w2 ⟨rfl, hl2⟩
           have hr2 := (row_leaves hrow hl2.2 hlt).alloc (.cells (txC x) 133)
           have hyb : Blk (w2.alloc (.cells (txC x) 133)) w2.heap.size 133 (txC x) := Blk.new _ _ _
           have hl3 := leaves_alloc (hl.trans hl2) (.cells (txC x) 133)
           have hs3 := hl3.2.size)
        | (refine wpList_buildSlice rfl _ _ _ rfl #[(0, .agg (txC x))] rfl (slice_tx x _) ?_)
        | (at_builtin; refine L3.wpList_append_any _ rfl _ _ 55 rfl w.heap.size 133 i0 _ 7 88 Tryz.underlying55 hi hz0 hz1 hz2 rfl (by decide) _ F.length (F.flatMap txL) rfl hr2 (w2.heap.size + 1) (some ⟨w2.heap.size, 0, none⟩) 1 1 (txL x) rfl (reads_one (k := 7) rfl hyb) (one_txL x) (by unfold maxLen; omega) (by omega) hs3 ?_
           intro v4 w4 hr4 hg4 hat4))
      go_round
      case rel => exact ⟨k + 1, by go_num, by omega, by rw [HS.out.1, List.length_append, List.flatMap_append]; simpa using hr4, by rw [HS.out.2]; exact leaves_own hl3 hg4 (fun i e => (hr2.lt i e).1) hlt⟩
      case measure => simp [RowKit.intOf]; omega
    · obtain rfl : k = n := by omega
      go_wp2_with fail
      go_ret
      exact ⟨_, rfl, hrow, hl⟩
end Go.Proofs.YtomaaidhmccngaaGreatDoor
