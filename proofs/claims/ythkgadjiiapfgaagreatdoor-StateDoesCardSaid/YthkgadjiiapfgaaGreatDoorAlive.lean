/-
  The chapter's example holds; a state that New made.
-/
import Derived.Test.YthkgadjiiapfgaaGreatDoorDig
set_option linter.unusedSimpArgs false
set_option linter.unusedVariables false
set_option maxRecDepth 10000
namespace Go.Proofs.YthkgadjiiapfgaaGreatDoor
open Go.RowKit Go.Maps Go.Lib
open L2 (less nums chk vlu)
open L3 (Blk)
open L6 (Turn moreB fresh From In)

theorem txC_ones (t : Txx) : (txC t).all (·.oneCell') = true := by kernel_rfl
/-- A state that New made. -/
theorem new_ok (A : Option Addr) (n c : Nat) (D : Nat → Am) (w : World) (h : Ams w A n D) (hn : n ≤ maxLen) (he : newE [] (amsL n D) = 0) :
    Calls Tryz.prog 7 #[.slice A n c] w fun e w' => ∃ g, e = .returned (.tuple #[.pointer (some ⟨g, 0, none⟩), .int .i64 0]) ∧ Sx w' (fresh w w') g ⟨(amsL n D).map acc0, []⟩ n ∧ Below w.heap.size w w' := by
  refine (new_any A n c D w h hn).mono ?_
  rintro e w' ⟨⟨h1, _⟩, hb⟩
  obtain ⟨g, he', hs⟩ := h1 he
  exact ⟨g, he', ⟨hs, (newE_good good_nil he).sane⟩, hb⟩
theorem new_err (A : Option Addr) (n c : Nat) (D : Nat → Am) (w : World) (h : Ams w A n D) (hn : n ≤ maxLen) (he : newE [] (amsL n D) ≠ 0) :
    Calls Tryz.prog 7 #[.slice A n c] w (gives (.tuple #[.pointer none, .int .i64 (newE [] (amsL n D))]) w) := by
  refine (new_any A n c D w h hn).mono ?_
  rintro e w' ⟨⟨_, h1⟩, hb⟩
  exact ⟨h1 he, hb⟩

abbrev exN : List UInt8 := [97, 108, 105, 99, 101]
abbrev exO : List UInt8 := [98, 111, 98]
abbrev exM : Txx := ⟨1, [97, 108, 105, 99, 101], [98, 111, 98], [], [], 3, 1⟩
abbrev exP : Am := ⟨[97, 108, 105, 99, 101], 5⟩
abbrev exS : Stt := ⟨[⟨[97, 108, 105, 99, 101], 5, 0⟩], []⟩
theorem ex_do : doE exS exM = 0 := by decide +kernel
theorem ex_again : doE (doS exS exM) exM = 90 := by decide +kernel
theorem ex_a : (ofA (doS exS exM).A exN).am = 2 := by decide +kernel
theorem ex_b : (ofA (doS exS exM).A exO).am = 3 := by decide +kernel
theorem ex_text : digT less (doS (doS exS exM) exM) = [97, 108, 105, 99, 101, 32, 50, 32, 49, 10, 98, 111, 98, 32, 51, 32, 48, 10] := by decide +kernel
theorem ex_new : newE [] (amsL 1 (fun _ => exP)) = 0 := by decide +kernel
theorem ex_wf : exM.wf 1000000 := by refine ⟨?_, ?_, ?_, ?_, ?_, ?_, ?_⟩ <;> simp [inI]
theorem build_exP (w : World) : (Instr.build 45 #[(0, .string { data := #[97, 108, 105, 99, 101] }), (1, .int .i64 5)]).run Tryz.prog w = .ok (.agg #[.string (str exN), .int .i64 5]) w := run_build w _ _ _ (by kernel_rfl)
theorem slice_exP (w : World) : (Instr.buildSlice 22 1 #[(0, .agg #[.string (str exN), .int .i64 5])]).run Tryz.prog w = .ok (.slice (some ⟨w.heap.size, 0, none⟩) 1 1) (w.alloc (.cells #[.string (str exN), .int .i64 5] 45)) := by kernel_rfl
theorem build_exM (w : World) : (Instr.build 40 #[(0, .int .i64 1), (1, .string { data := #[97, 108, 105, 99, 101] }), (2, .string { data := #[98, 111, 98] }), (5, .int .i64 3), (6, .int .i64 1)]).run Tryz.prog w = .ok (.agg (txC exM)) w := run_build w _ _ _ (by kernel_rfl)
theorem al_new (w : World) : Calls Tryz.prog 7 #[.slice (some ⟨w.heap.size, 0, none⟩) 1 1] (w.alloc (.cells #[.string (str exN), .int .i64 5] 45)) fun e w' =>
    ∃ g, e = .returned (.tuple #[.pointer (some ⟨g, 0, none⟩), .int .i64 0]) ∧ Sx w' (fresh w w') g exS 1 ∧ In w' (fresh w w') ∧ Below w.heap.size w w' := by
  have hb0 : Below w.heap.size w (w.alloc (.cells #[.string (str exN), .int .i64 5] 45)) := (Below.refl _ _).alloc (Nat.le_refl _) _
  have hk : Blk (w.alloc (.cells #[.string (str exN), .int .i64 5] 45)) w.heap.size 45 #[.string (str exN), .int .i64 5] := Blk.new _ _ _
  have hA : Ams (w.alloc (.cells #[.string (str exN), .int .i64 5] 45)) (some ⟨w.heap.size, 0, none⟩) 1 (fun _ => exP) := fun i hi => by
    obtain rfl : i = 0 := by omega
    exact ⟨⟨w.heap.size, 0, none⟩, rfl, hk.lt, hk.cell 0, hk.cell 1, by unfold maxLen; decide, by unfold inI; decide⟩
  refine (new_ok _ 1 1 _ _ hA (by unfold maxLen; omega) ex_new).mono ?_
  rintro e w' ⟨g, rfl, ⟨h1, h2⟩, hb⟩
  refine ⟨g, rfl, ⟨h1.mono fun k hk h => ⟨Nat.le_trans hb0.size h.1, h.2⟩, h2⟩, In.fresh _ _, L6.nxt hb0 hb hb0.size⟩
theorem al_amount {w : World} {S : Nat → Prop} {g n : Nat} {s : Stt} (h : Sx w S g s n) (l : List UInt8) (k : Int) (hl : l.length ≤ 1000) (hk : (ofA s.A l).am = k) : Calls Tryz.prog 13 #[.pointer (some ⟨g, 0, none⟩), .string { data := l.toArray }] w fun e w' => e = .returned (.int .i64 k) ∧ w = w' := by
  have := amount_any h.1 l (by unfold maxLen; omega)
  rw [amt_fA, hk] at this
  exact this
theorem al_text {w : World} {S : Nat → Prop} {g n : Nat} (h : Sx w S g (doS (doS exS exM) exM) n) (hT : Tabs w) (hn : n ≤ 1000000) : Calls Tryz.prog 14 #[.pointer (some ⟨g, 0, none⟩)] w (gives (.string { data := #[97, 108, 105, 99, 101, 32, 50, 32, 49, 10, 98, 111, 98, 32, 51, 32, 48, 10] }) w) := by
  have := digest_any h hT hn
  rw [ex_text] at this
  exact this
set_option maxHeartbeats 2000000 in
set_option maxRecDepth 100000 in
theorem alive_any (w : World) (hT : Tabs w) : Calls Tryz.prog 4 #[] w (gives (.bool true) w) := by
  have HT := Lib.hid (fun w' (hb : Below w.heap.size w w') => hT.kept hb)
  have HN := Lib.hid (al_new w)
  clear hT
  go_enter Tryz.func4, Tryz.ntmps4
  go_upto_region 5 with (first
    | (refine wpList_build rfl _ _ rfl #[(0, .string { data := #[97, 108, 105, 99, 101] }), (1, .int .i64 5)] rfl (build_exP _) ?_)
    | (refine wpList_buildSlice rfl _ _ _ rfl #[(0, .agg #[.string (str exN), .int .i64 5])] rfl (slice_exP _) ?_)
    | (go_at_call 7; refine HN.out.mono ?_; rintro e w1 ⟨g, rfl, hs1, hi1, hb1⟩)
    | (refine wpList_build rfl _ _ rfl #[(0, .int .i64 1), (1, .string { data := #[97, 108, 105, 99, 101] }), (2, .string { data := #[98, 111, 98] }), (5, .int .i64 3), (6, .int .i64 1)] rfl (build_exM _) ?_)
    | (refine wpList_store_new rfl _ _ _ rfl _ (txC exM) rfl rfl _ _ (by kernel_rfl) rfl (txC_ones _) ?_)
    | go_in)
  obtain ⟨wt, hwt⟩ : ∃ wt, wt = w1.alloc (.cells (txC exM) 40) := ⟨_, rfl⟩
  have k1 : Blk wt w1.heap.size 40 (txC exM) := by rw [hwt]; exact Blk.new _ _ _
  have hbT1 : Below w1.heap.size w1 wt := by rw [hwt]; exact (Below.refl _ _).alloc (Nat.le_refl _) _
  rw [← hwt]
  clear hwt
  have hbT : Below w.heap.size w wt := L6.nxt hb1 hbT1 hb1.size
  have HD := Lib.hid (doSx (t := exM) ⟨hs1.1.below hbT1, hs1.2⟩ (hi1.le hbT1.size) ex_wf (HT.out _ hbT) (by unfold maxLen; omega))
  rw [ex_do] at HD
  have hfr : ∀ k, fresh w w1 k → w.heap.size ≤ k := fun k h => h.1
  go_wp2_with (first
    | (refine wpList_row_at rfl _ _ rfl w1.heap.size rfl _ _ _ _ k1 Tryz.underlying40 rfl (by kernel_rfl) ?_)
    | (go_at_call 11; first
        | ((with_reducible refine HD.out.mono ?_); rintro e w2 ⟨rfl, hs2, ht2⟩
           have k1' := ht2.blk k1 (fun h => absurd h.2 (Nat.lt_irrefl _))
           have hb2 := L6.nxtT hbT ht2 hfr
           have hi2 : In w2 (moreB (fresh w w1) wt w2) := (hi1.le hbT1.size).more ht2.size
           have hA1 := al_amount hs2 exN _ (by decide) ex_a
           have hA2 := al_amount hs2 exO _ (by decide) ex_b
           have HD2 := Lib.hid (doSx (t := exM) hs2 hi2 ex_wf (HT.out _ hb2) (by unfold maxLen; omega))
           rw [ex_again] at HD2
           clear k1
           have k1 := k1'
           clear k1')
        | ((with_reducible refine HD2.out.mono ?_); rintro e w3 ⟨rfl, hs3, ht3⟩
           have hb3 := L6.nxtT hb2 ht3 (fun k h => h.elim (fun h => h.1) (fun h => Nat.le_trans hbT.size h.1))
           have HG := Lib.hid (al_text hs3 (HT.out _ hb3) (by omega))))
    | (go_at_call 13; first
        | ((with_reducible refine hA1.mono ?_); rintro e w5 ⟨rfl, rfl⟩)
        | ((with_reducible refine hA2.mono ?_); rintro e w5 ⟨rfl, rfl⟩))
    | (go_at_call 14; refine HG.out.mono ?_; unfold gives; rintro e w4 ⟨rfl, hb4⟩)
    | go_in)
  go_ret
  exact ⟨rfl, L6.nxt hb3 hb4 hb3.size⟩
end Go.Proofs.YthkgadjiiapfgaaGreatDoor
