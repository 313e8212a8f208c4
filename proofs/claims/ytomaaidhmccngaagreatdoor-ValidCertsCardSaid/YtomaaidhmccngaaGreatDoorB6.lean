import Derived.Test.YtomaaidhmccngaaGreatDoorTakeT
import Derived.Test.YtomaaidhmccngaaGreatDoorB7
set_option linter.unusedSimpArgs false
set_option linter.unusedVariables false
set_option maxRecDepth 100000
set_option maxHeartbeats 16000000
namespace Go.Proofs.YtomaaidhmccngaaGreatDoor
open Go.RowKit Go.Maps Go.Lib
open L3 (Blk Reads Rdr leaves numS failS rdN)
open L11 (Crt zeroC crtL crtC mayV takeC crtInfo qal)
theorem qjd (n : Int) (w : World) : Calls Tryz.prog 182 #[.int .i64 n] w fun e w' => e = .returned (.int .i64 (fitB n)) /\ w = w' := by
 by_cases h : 1073741824 < n
 ·have e : fitB n = -1 := if_pos h
  rw [e]
  clear e
  go_enter Tryz.func182, Tryz.ntmps182
  go_wp2
  go_ret
  exact ⟨rfl, rfl⟩
 ·have e : fitB n = n := if_neg h
  rw [e]
  clear e
  go_enter Tryz.func182, Tryz.ntmps182
  go_wp2
  go_ret
  exact ⟨rfl, rfl⟩
theorem c_take (g : Nat) (p : List UInt8 × Int) (w : World) (h : Rdr w g p) : Calls Tryz.prog 184 #[.pointer (some ⟨g, 0, none⟩)] w fun e w' => e = .returned (.agg (crtC (takeC p).1)) /\ leaves g (takeC p).2 w w' := L11.qgO g p w h
theorem build_tm (s v : Int) (c : Crt) (w : World) : (Instr.build 31 #[(0, .int .i64 s), (1, .int .i64 v), (2, .agg (crtC c))]).run Tryz.prog w = .ok (.agg (tmC ⟨s, v, c⟩)) w := run_build w _ _ _ (by kernel_rfl)
theorem qfP {w W : World} {r : Option Nat} (h : w.grownBy W r) : w.grownBy W.drew r := ⟨h.os, h.tape, h.output, h.size, h.block⟩
structure OneAt (w : World) (g G : Nat) (v : Int) (W : World) : Prop where
 gc : W.cell? ⟨G, 0, none⟩ = some (.int .i64 v)
 re : Blk W w.heap.size 31 (tmC zeroT)
 gr : w.grownBy W (some g)
theorem cell_grown {w W : World} {g G i : Nat} {u : Value} (h : w.cell? ⟨G, i, none⟩ = some u) (hg : w.grownBy W (some g)) (hne : G ≠ g) : W.cell? ⟨G, i, none⟩ = some u := by
 have hlt : G < w.heap.size := L2.qbe h
 rw [World.cell?_of_block (w := w) (w' := W) (a := ⟨G, i, none⟩) (hg.block G hlt (fun e => hne (by injection e)))]
 exact h
theorem OneAt.next {w W W' : World} {g G : Nat} {v : Int} {q : List UInt8 × Int} (h : OneAt w g G v W) (hl : leaves g q W W') (hg : g < w.heap.size) (hne : G ≠ g) : OneAt w g G v W' :=
 ⟨cell_grown h.gc hl.2 hne, h.re.grown hl.2 (fun e => by injection e with e; omega), L3.qa3 h.gr hl.2⟩
theorem one_any (g G : Nat) (v : Int) (p : List UInt8 × Int) (w : World) (h : Rdr w g p) (hG : w.cell? ⟨G, 0, none⟩ = some (.int .i64 v)) (hne : G ≠ g) :
 Calls Tryz.prog 186 #[.pointer (some ⟨g, 0, none⟩), .pointer (some ⟨G, 0, none⟩)] w fun e w' => e = .returned (.agg (tmC (oneT v p).1)) /\ leaves g (oneT v p).2 w w' := by
 have hg := h.lt
 have hS0 : OneAt w g G v ((w.alloc (.cells (tmC zeroT) 31)).drew) := by
  refine ⟨?_, (qc0 w _ zeroT).drew, qfP (World.grownBy_alloc w _ _)⟩
  exact cell_grown (g := g) hG (qfP (World.grownBy_alloc w _ _)) hne
 have hR1 : Rdr (w.alloc (.cells (tmC zeroT) 31)) g p := qaT h _
 have hR0 : Rdr ((w.alloc (.cells (tmC zeroT) 31)).drew) g p := qbS hR1 (Below.refl _ (w.alloc (.cells (tmC zeroT) 31))).drew hR1.lt
 clear hR1
 obtain ⟨n, en⟩ := nm (numV p)
 obtain ⟨q, eq⟩ := nm (numS p)
 obtain ⟨c, ec⟩ := nm ((takeC q).1)
 obtain ⟨r, er⟩ := nm ((takeC q).2)
 have hn := fun W h => qdC g p W h
 have ht := fun W h => c_take g q W h
 rw [<- en, <- eq] at hn
 rw [<- ec, <- er] at ht
 have hX : oneT v p = (⟨fitB n, v, c⟩, r) := by unfold oneT; rw [<- en, <- eq, <- ec, <- er]
 have HH := hid (And.intro hn ht)
 rw [hX]
 clear hn ht en eq ec er hX hG h
 go_enter Tryz.func186, Tryz.ntmps186
 go_upto_region 1 with fail
 refine qak (OneAt w g G v) [0, 3, 4, 5] (by kernel_rfl) ?_
 refine qar (f := 5) (by kernel_rfl) (fun _ x _ _ _ h => by cases x <;> exact h) hS0 [0, 3, 4, 5] _ _ (by kernel_rfl) (by kernel_rfl) (by kernel_rfl) ?_
 have ne : Nonempty (qad (OneAt w g G v)) := ⟨⟨_, hS0⟩⟩
 have g0 : ∀ y : qad (OneAt w g G v), y.w.cell? ⟨G, 0, none⟩ = some (.int .i64 v) := fun y => y.h.gc
 conv => arg 5; simp [pick]
 iterate 4 go_big_quiet_step (fail)
 refine wpQuiet_nil ?_
 obtain ⟨w0, hw0⟩ := nm ((w.alloc (.cells (tmC zeroT) 31)).drew)
 rw [<- hw0] at hS0 hR0 ⊢
 clear hw0 ne g0
 refine qag 1 (by kernel_rfl) rfl ?_
 go_wp2_with (go_at_call 183; refine (HH.out.1 _ hR0).mono ?_; rintro e w1 ⟨rfl, hl1⟩)
 have hS1 := hS0.next hl1 hg hne
 refine stepQ.mk ⟨fun _ => hS1, ?_⟩
 refine qag 2 (by kernel_rfl) rfl ?_
 go_wp2_with (go_at_call 182; refine (qjd _ _).mono ?_; rintro e w1' ⟨rfl, rfl⟩)
 refine stepQ.mk ⟨fun _ => hS1, ?_⟩
 refine qag 6 (by kernel_rfl) rfl ?_
 go_wp2_with (go_at_call 184; refine (HH.out.2 _ hl1.1).mono ?_; rintro e w2 ⟨rfl, hl2⟩)
 have hS2 := hS1.next hl2 hg hne
 refine stepQ.mk ⟨fun _ => hS2, ?_⟩
 refine qag 7 (by kernel_rfl) rfl ?_
 refine wpList_build rfl _ _ rfl #[(0, .int .i64 (fitB n)), (1, .int .i64 v), (2, .agg (crtC c))] rfl (build_tm _ _ _ _) ?_
 go_wp2
 refine stepQ.mk ⟨fun _ => hS2, ?_⟩
 refine qaq [8] _ _ _ (by kernel_rfl) ?_
 conv => arg 4; simp [pick]
 go_wp2_with (first
  | (refine wpList_store_row rfl _ _ _ rfl w.heap.size (tmC ⟨fitB n, v, c⟩) rfl rfl _ _ hS2.re tmInfo rfl (qbX _) ?_))
 (try simp only [Exit.inBlock, Exit.then, Act.put])
 refine bodyPost_ret (v := .agg (tmC ⟨fitB n, v, c⟩)) (qan rfl _ _ w.heap.size rfl _ _ _ _ (qac hS2.re) Tryz.underlying31 rfl tmInfo) rfl ?_
 exact ⟨rfl, qbn hl2.1 hg _, qaJ hS2.gr (Nat.le_refl _) _⟩
end Go.Proofs.YtomaaidhmccngaaGreatDoor
namespace Go.Proofs.YtomaaidhmccngaaGreatDoor
open Go.RowKit Go.Maps Go.Lib
open L3 (Blk Reads Rdr leaves numS failS rdN mostV mostS)
open L11 (Crt zeroC crtL crtC mayV takeC crtInfo qal)
theorem qfZ {w w' : World} {base size n g : Nat} {e : TypeId} {v : Value} {xs : List Value} (h : w.ownsRow base e size v n xs) (hg : w.grownBy w' (some g)) (hb : g < base) : w'.ownsRow base e size v n xs := by
 refine ⟨h.1, ?_⟩
 rcases h.2 with h0 | ⟨g', cap, cur, rfl, hb', hh, rest⟩
 ·exact .inl h0
 ·exact .inr ⟨g', cap, cur, rfl, hb', by rw [hg.block g' (Array.getElem?_eq_some_iff.1 hh).1 (fun e => by injection e with e; omega)]; exact hh, rest⟩
theorem qfS {w W W' : World} {g : Nat} {q : List UInt8 × Int} {row : Option Nat} (h : leaves g q w W) (hg : W.grownBy W' row) (hr : ∀ k, row = some k -> w.heap.size <= k) (hlt : g < w.heap.size) : leaves g q w W' := by
 have hb : Below w.heap.size W W' := (Below.refl _ _).grown hg h.2.size hr
 exact ⟨qbS h.1 hb hlt, ⟨hb.os.trans h.2.os, hb.tape.trans h.2.tape, hb.output.trans h.2.output, Nat.le_trans h.2.size hb.size, fun k hk hne => (hb.block k hk).trans (h.2.block k hk hne)⟩⟩
theorem qe9 {w W : World} {g : Nat} {q : List UInt8 × Int} (h : leaves g q w W) (o : Obj) : leaves g q w (W.alloc o) := ⟨qaT h.1 o, L3.qa3 h.2 (World.grownBy_alloc _ _ _)⟩
theorem qdM (m : Int) (p : List UInt8 × Int) (hm : 0 <= m) : 0 <= mostV m p /\ mostV m p <= m := by unfold L3.mostV; split <;> omega
theorem qjB : ∃ i : TypeInfo, Tryz.prog.info? 31 = some i /\ i.zero = some (.agg (tmC zeroT)) /\ i.size = 10 /\ i.bytes = 72 := by
 have h : (Tryz.prog.info? 31).map (fun i => (i.zero, i.size, i.bytes)) = some (some (.agg (tmC zeroT)), 10, 72) := by kernel_rfl
 exact info_parts h
theorem qjC : ∃ i : TypeInfo, Tryz.prog.info? 133 = some i /\ i.zero = some (.agg (txC zeroX)) /\ i.size = 7 /\ i.bytes = 88 := by
 have h : (Tryz.prog.info? 133).map (fun i => (i.zero, i.size, i.bytes)) = some (some (.agg (txC zeroX)), 7, 88) := by kernel_rfl
 exact info_parts h
theorem qj7 (t : Tmo) (w : World) : (Instr.buildSlice 32 1 #[(0, .agg (tmC t))]).run Tryz.prog w = .ok (.slice (some ⟨w.heap.size, 0, none⟩) 1 1) (w.alloc (.cells (tmC t) 31)) := by kernel_rfl
theorem qj8 (t : Txx) (w : World) : (Instr.buildSlice 55 1 #[(0, .agg (txC t))]).run Tryz.prog w = .ok (.slice (some ⟨w.heap.size, 0, none⟩) 1 1) (w.alloc (.cells (txC t) 133)) := by kernel_rfl
theorem qlY (a : Tmo) : ∀ u ∈ tmL a, u.oneCell' = true := by intro u hu; simp [tmL] at hu; rcases hu with rfl | rfl | rfl | rfl | rfl | rfl | rfl | rfl | rfl | rfl <;> rfl
theorem qlZ (a : Txx) : ∀ u ∈ txL a, u.oneCell' = true := by intro u hu; simp [txL] at hu; rcases hu with rfl | rfl | rfl | rfl | rfl | rfl | rfl <;> rfl
def listed {α : Type} (T : TypeId) (f : α -> List Value) (k g : Nat) (L : List α) (q : List UInt8 × Int) (w : World) (e : Ending) (w' : World) : Prop :=
 ∃ v, e = .returned v /\ w'.ownsRow w.heap.size T k v L.length (L.flatMap f) /\ leaves g q w w'
theorem qk9 : ∀ args w, (callFunc 186 args).run Tryz.prog w = .ok (.enter 186 args) w := enters_of Tryz.func186 (by kernel_rfl) rfl
theorem qk3 (g G : Nat) (v : Int) (most : Int) (p : List UInt8 × Int) (w : World) (h : Rdr w g p) (hG : w.cell? ⟨G, 0, none⟩ = some (.int .i64 v)) (hne : G ≠ g) (hm0 : 0 <= most) (hm : most <= 100) :
 Calls Tryz.prog 185 #[.pointer (some ⟨g, 0, none⟩), .int .i64 most, .func (.func 186) #[] #[.pointer (some ⟨G, 0, none⟩)]] w (listed 31 tmL 10 g (listG (oneT v) (mostV most p).toNat (mostS most p)) (itG (oneT v) (mostV most p).toNat (mostS most p)) w) := by
 have eg := qk9
 obtain ⟨i0, hi, hz0, hz1, hz2⟩ := qjB
 have hlt := h.lt
 have hr := qdM most p hm0
 have hM := L3.qfs g p most w h
 have HF := hid (fun (z : List UInt8 × Int) (W : World) (hl : leaves g z w W) => one_any g G v z W hl.1 (cell_grown hG hl.2 hne) hne)
 obtain ⟨s, es⟩ := nm (mostS most p)
 obtain ⟨n, en⟩ := nm ((mostV most p).toNat)
 have eN : mostV most p = (n : Int) := by rw [en, Int.toNat_of_nonneg hr.1]
 have hn : n <= 100 := by omega
 rw [eN, <- es] at hM
 rw [<- es, <- en]
 have HM := hid hM
 clear hM hr es en eN hG h
 go_enter Tryz.func185, Tryz.ntmps185
 go_wp2_with (first
  | (go_at_call 204; refine HM.out.mono ?_; rintro e w1 ⟨rfl, hl1⟩))
 go_loopw [7, 11] (fun l i wr => ∃ k : Nat, i = .int .i64 k /\ k <= n /\ wr.ownsRow w.heap.size 31 10 l (listG (oneT v) k s).length ((listG (oneT v) k s).flatMap tmL) /\ leaves g (itG (oneT v) k s) w wr) (fun _ i _ => n - (RowKit.intOf i).toNat)
 case atStart => exact ⟨0, rfl, Nat.zero_le _, ⟨by simp [listG], .inl ⟨rfl, by simp [listG]⟩⟩, hl1⟩
 case round =>
  obtain ⟨k, rfl, hk, hrow, hl⟩ := hrel
  clear hl1
  by_cases hlk : k < n
  ·have hC := HF.out _ wr hl
   have hsn := qbI (oneT v) k s
   have hlen := qbh (oneT v) k s
   have hit : itG (oneT v) (k + 1) s = ((oneT v) (itG (oneT v) k s)).2 := rfl
   obtain ⟨z, ez⟩ := nm (itG (oneT v) k s)
   obtain ⟨F, eF⟩ := nm (listG (oneT v) k s)
   rw [<- ez] at hC hsn hit hl
   rw [<- eF] at hsn hlen hrow
   obtain ⟨x, ex⟩ := nm (((oneT v) z).1)
   obtain ⟨z', ez'⟩ : ∃ z', z' = ((oneT v) z).2 := ⟨_, rfl⟩
   rw [<- ex] at hC hsn
   rw [<- ez'] at hC hit
   have hF : F.length <= 100 := by omega
   have HC := hid hC
   have HS := hid (And.intro hsn hit)
   clear hC hsn hit ez eF ex ez' hlen
   go_wp2_with (first
    | (go_at_fn 186; refine HC.out.mono ?_; rintro e w2 ⟨rfl, hl2⟩
       have hr2 := (qfZ hrow hl2.2 hlt).alloc (.cells (tmC x) 31)
       have hyb : Blk (w2.alloc (.cells (tmC x) 31)) w2.heap.size 31 (tmC x) := Blk.new _ _ _
       have hl3 := qe9 (hl.trans hl2) (.cells (tmC x) 31)
       have hs3 := hl3.2.size)
    | (refine wpList_buildSlice rfl _ _ _ rfl #[(0, .agg (tmC x))] rfl (qj7 x _) ?_)
    | (at_builtin; refine L3.qao _ rfl _ _ 32 rfl w.heap.size 31 i0 _ 10 72 Tryz.underlying32 hi hz0 hz1 hz2 rfl (by decide) _ F.length (F.flatMap tmL) rfl hr2 (w2.heap.size + 1) (some ⟨w2.heap.size, 0, none⟩) 1 1 (tmL x) rfl (qbC (k := 10) rfl hyb) (qlY x) (by unfold maxLen; omega) (by omega) hs3 ?_
       intro v4 w4 hr4 hg4 hat4))
   go_round
   case rel => exact ⟨k + 1, by go_num, by omega, by rw [HS.out.1, List.length_append, List.flatMap_append]; simpa using hr4, by rw [HS.out.2]; exact qfS hl3 hg4 (fun i e => (hr2.lt i e).1) hlt⟩
   case measure => simp [RowKit.intOf]; omega
  ·obtain rfl : k = n := by omega
   go_wp2_with fail
   go_ret
   exact ⟨_, rfl, hrow, hl⟩
theorem qkA : ∀ args w, (callFunc 188 args).run Tryz.prog w = .ok (.enter 188 args) w := enters_of Tryz.func188 (by kernel_rfl) rfl
theorem qk4 (g : Nat) (most : Int) (p : List UInt8 × Int) (w : World) (h : Rdr w g p) (hT : ∀ W, w.grownBy W (some g) -> Tabs W) (hm0 : 0 <= most) (hm : most <= 100) :
 Calls Tryz.prog 187 #[.pointer (some ⟨g, 0, none⟩), .int .i64 most, .func (.func 188) #[] #[]] w (listed 133 txL 7 g (listG takeT (mostV most p).toNat (mostS most p)) (itG takeT (mostV most p).toNat (mostS most p)) w) := by
 have eg := qkA
 obtain ⟨i0, hi, hz0, hz1, hz2⟩ := qjC
 have hlt := h.lt
 have hr := qdM most p hm0
 have hM := L3.qfs g p most w h
 have HF := hid (fun (z : List UInt8 × Int) (W : World) (hl : leaves g z w W) => qgO g z W hl.1 (fun W2 hg2 => hT W2 (L3.qa3 hl.2 hg2)))
 obtain ⟨s, es⟩ := nm (mostS most p)
 obtain ⟨n, en⟩ := nm ((mostV most p).toNat)
 have eN : mostV most p = (n : Int) := by rw [en, Int.toNat_of_nonneg hr.1]
 have hn : n <= 100 := by omega
 rw [eN, <- es] at hM
 rw [<- es, <- en]
 have HM := hid hM
 clear hM hr es en eN hT h
 go_enter Tryz.func187, Tryz.ntmps187
 go_wp2_with (first
  | (go_at_call 204; refine HM.out.mono ?_; rintro e w1 ⟨rfl, hl1⟩))
 go_loopw [7, 11] (fun l i wr => ∃ k : Nat, i = .int .i64 k /\ k <= n /\ wr.ownsRow w.heap.size 133 7 l (listG takeT k s).length ((listG takeT k s).flatMap txL) /\ leaves g (itG takeT k s) w wr) (fun _ i _ => n - (RowKit.intOf i).toNat)
 case atStart => exact ⟨0, rfl, Nat.zero_le _, ⟨by simp [listG], .inl ⟨rfl, by simp [listG]⟩⟩, hl1⟩
 case round =>
  obtain ⟨k, rfl, hk, hrow, hl⟩ := hrel
  clear hl1
  by_cases hlk : k < n
  ·have hC := HF.out _ wr hl
   have hsn := qbI takeT k s
   have hlen := qbh takeT k s
   have hit : itG takeT (k + 1) s = (takeT (itG takeT k s)).2 := rfl
   obtain ⟨z, ez⟩ := nm (itG takeT k s)
   obtain ⟨F, eF⟩ := nm (listG takeT k s)
   rw [<- ez] at hC hsn hit hl
   rw [<- eF] at hsn hlen hrow
   obtain ⟨x, ex⟩ := nm ((takeT z).1)
   obtain ⟨z', ez'⟩ : ∃ z', z' = (takeT z).2 := ⟨_, rfl⟩
   rw [<- ex] at hC hsn
   rw [<- ez'] at hC hit
   have hF : F.length <= 100 := by omega
   have HC := hid hC
   have HS := hid (And.intro hsn hit)
   clear hC hsn hit ez eF ex ez' hlen
   go_wp2_with (first
    | (go_at_fn 188; refine HC.out.mono ?_; rintro e w2 ⟨rfl, hl2⟩
       have hr2 := (qfZ hrow hl2.2 hlt).alloc (.cells (txC x) 133)
       have hyb : Blk (w2.alloc (.cells (txC x) 133)) w2.heap.size 133 (txC x) := Blk.new _ _ _
       have hl3 := qe9 (hl.trans hl2) (.cells (txC x) 133)
       have hs3 := hl3.2.size)
    | (refine wpList_buildSlice rfl _ _ _ rfl #[(0, .agg (txC x))] rfl (qj8 x _) ?_)
    | (at_builtin; refine L3.qao _ rfl _ _ 55 rfl w.heap.size 133 i0 _ 7 88 Tryz.underlying55 hi hz0 hz1 hz2 rfl (by decide) _ F.length (F.flatMap txL) rfl hr2 (w2.heap.size + 1) (some ⟨w2.heap.size, 0, none⟩) 1 1 (txL x) rfl (qbC (k := 7) rfl hyb) (qlZ x) (by unfold maxLen; omega) (by omega) hs3 ?_
       intro v4 w4 hr4 hg4 hat4))
   go_round
   case rel => exact ⟨k + 1, by go_num, by omega, by rw [HS.out.1, List.length_append, List.flatMap_append]; simpa using hr4, by rw [HS.out.2]; exact qfS hl3 hg4 (fun i e => (hr2.lt i e).1) hlt⟩
   case measure => simp [RowKit.intOf]; omega
  ·obtain rfl : k = n := by omega
   go_wp2_with fail
   go_ret
   exact ⟨_, rfl, hrow, hl⟩
end Go.Proofs.YtomaaidhmccngaaGreatDoor
namespace Go.Proofs.YtomaaidhmccngaaGreatDoor
open Go.RowKit Go.Maps Go.Lib
open L3 (Blk Reads Rdr leaves numS failS rdN mostV mostS)
open L6 (Turn)
open L11 (Crt zeroC crtL crtC mayV takeC crtInfo qal)
theorem qeQ (p : List UInt8 × Int) : (takeC p).1.wf := by
 unfold L11.takeC
 split
 ·exact L11.qcN
 ·exact L11.qjz p
theorem qjA (p : List UInt8 × Int) : (takeT p).1.wf 1000000 := by
 rw [qhY]
 unfold endT
 split
 ·exact qgW _
 ·exact qj0 p
theorem qdO (p : List UInt8 × Int) : 0 <= numV p := (qdP p).1
theorem qeM {α : Type} (one : List UInt8 × Int -> α × (List UInt8 × Int)) (Q : α -> Prop) (h : ∀ q, Q (one q).1) (n : Nat) (p : List UInt8 × Int) : ∀ t ∈ listG one n p, Q t := by
 intro t ht
 unfold listG at ht
 obtain ⟨k, _, rfl⟩ := List.mem_map.1 ht
 exact h _
theorem readB_wf (p : List UInt8 × Int) : (readB p).1.wf := by
 obtain ⟨v, c, q, s, n, s2, m, s3, ev, ec, es, en, es2, em, es3, hz⟩ := qd5 p
 rw [hz]
 have hc := qeQ (rS p)
 rw [ec] at hc
 have r1 := qdM 10 q (by omega)
 have r2 := qdM 8 s2 (by omega)
 have hv : inI v := by rw [ev]; exact qfa _ (qdO p)
 refine ⟨hv, qfa _ (qdO _), qfa _ (qdO _), qfa _ (qdO _), hc, ?_, ?_, ?_, ?_⟩
 ·exact qeM _ (fun t : Tmo => t.wf) (fun q => ⟨qfa _ (qdO _), hv, qeQ _⟩) _ _
 ·exact qeM _ (fun t : Txx => t.wf 1000000) (fun q => qjA q) _ _
 ·show (listG (oneT v) n s).length <= 1000
  rw [qbh, en]; omega
 ·show (listG takeT m s3).length <= 1000
  rw [qbh, em]; omega
def LiesF (B : Nat) (w : World) (b : Blo) (P T : Value) : Prop :=
 ∃ A c D d, P = .slice A b.proof.length c /\ T = .slice D b.txs.length d /\ Rd tmL 10 w A b.proof /\ Rd txL 7 w D b.txs /\ (∀ ad, A = some ad -> B <= ad.block) /\ (∀ ad, D = some ad -> B <= ad.block)
theorem LiesF.lies {B : Nat} {w : World} {b : Blo} {P T : Value} (h : LiesF B w b P T) : Lies w b P T := by
 obtain ⟨A, c, D, d, h1, h2, h3, h4, _⟩ := h
 exact ⟨A, c, D, d, h1, h2, h3, h4⟩
theorem LiesF.turn {B : Nat} {S : Nat -> Prop} {w w' : World} {b : Blo} {P T : Value} (h : LiesF B w b P T) (ht : Turn S w w') (hS : ∀ k, S k -> k < B) : LiesF B w' b P T := by
 obtain ⟨A, c, D, d, h1, h2, h3, h4, h5, h6⟩ := h
 exact ⟨A, c, D, d, h1, h2, h3.kept ht (Off.of_ge h5 hS), h4.kept ht (Off.of_ge h6 hS), h5, h6⟩
theorem LiesF.le {B B' : Nat} {w : World} {b : Blo} {P T : Value} (h : LiesF B w b P T) (hB : B' <= B) : LiesF B' w b P T := by
 obtain ⟨A, c, D, d, h1, h2, h3, h4, h5, h6⟩ := h
 exact ⟨A, c, D, d, h1, h2, h3, h4, fun ad e => Nat.le_trans hB (h5 ad e), fun ad e => Nat.le_trans hB (h6 ad e)⟩
theorem qbq (B : Nat) (w : World) : LiesF B w zeroB (.slice none 0 0) (.slice none 0 0) := ⟨none, 0, none, 0, rfl, rfl, Rd.nil, Rd.nil, fun ad e => (by cases e), fun ad e => (by cases e)⟩
theorem qbE (w : World) (g i : Nat) (u : Value) : Turn (fun k => k = g) w (w.setCell ⟨g, i, none⟩ u) :=
 ⟨rfl, rfl, rfl, by simp [World.setCell], fun k hk hn => Below.heap_setCell w ⟨g, i, none⟩ u k hn⟩
theorem qf3 {w w' : World} {g : Nat} (h : w.grownBy w' (some g)) : Turn (fun k => k = g) w w' := L6.Turn.of_grown h (fun k e => by injection e with e; exact e.symm)
theorem build_bk (v r h a : Int) (c : Crt) (w : World) : (Instr.build 57 #[(0, .int .i64 v), (1, .int .i64 r), (2, .int .i64 h), (3, .int .i64 a), (4, .agg (crtC c))]).run Tryz.prog w = .ok (.agg (bloC ⟨v, r, h, a, c, [], []⟩ (.slice none 0 0) (.slice none 0 0))) w := run_build w _ _ _ (by kernel_rfl)
structure RdAt (w : World) (g G : Nat) (b : Blo) (P T : Value) (q : List UInt8 × Int) (W : World) : Prop where
 rdr : Rdr W g q
 re : Blk W w.heap.size 57 (bloC zeroB (.slice none 0 0) (.slice none 0 0))
 bx : Blk W G 57 (bloC b P T)
 gr : w.grownBy W (some g)
 lt : g < w.heap.size /\ w.heap.size < G
section
variable {w W W' : World} {g G : Nat} {b : Blo} {P T : Value} {q q' : List UInt8 × Int}
theorem RdAt.next (h : RdAt w g G b P T q W) (hl : leaves g q' W W') : RdAt w g G b P T q' W' := by
 have hg := h.lt
 exact ⟨hl.1, h.re.grown hl.2 (fun e => by injection e with e; omega), h.bx.grown hl.2 (fun e => by injection e with e; omega), L3.qa3 h.gr hl.2, hg⟩
theorem RdAt.set_ (h : RdAt w g G b P T q W) (i : Nat) (u : Value) (b' : Blo) (P' T' : Value) (he : (bloC b P T).setIfInBounds i u = bloC b' P' T') : RdAt w g G b' P' T' q (W.setCell ⟨G, i, none⟩ u) := by
 have hg := h.lt
 refine ⟨qg9 h.rdr (by omega) u, h.re.far (by show w.heap.size ≠ G; omega) u, ?_, qdI h.gr (by omega) u, hg⟩
 rw [<- he]
 exact h.bx.set_ i u
theorem RdAt.mk' {w2 : World} (h : Rdr w g q') (hl : leaves g q (w.alloc (.cells (bloC zeroB (.slice none 0 0) (.slice none 0 0)) 57)) w2) (b : Blo) (P T : Value) : RdAt w g w2.heap.size b P T q (w2.alloc (.cells (bloC b P T) 57)) := by
 have hg := h.lt
 have hs := hl.2.size
 simp only [World.alloc, Array.size_push] at hs
 exact ⟨qaT hl.1 _, ((qby w _ zeroB _ _).grown hl.2 (fun e => by injection e with e; omega)).alloc _, qby _ _ _ _ _, L3.qa3 (L3.qa3 (World.grownBy_alloc w _ _) hl.2) (World.grownBy_alloc _ _ _), hg, by omega⟩
end
theorem qmn (g : Nat) (p : List UInt8 × Int) (w : World) (h : Rdr w g p) (hT : ∀ W, w.grownBy W (some g) -> Tabs W) :
 Calls Tryz.prog 162 #[.pointer (some ⟨g, 0, none⟩)] w fun e w' => ∃ P T, e = .returned (.agg (bloC (readB p).1 P T)) /\ LiesF (w.heap.size + 1) w' (readB p).1 P T /\ leaves g (readB p).2 w w' := by
 have HR0 : Hid (Rdr (w.alloc (.cells (bloC zeroB (.slice none 0 0) (.slice none 0 0)) 57)) g p) := hid (qaT h _)
 have HM := hid (fun w2 q (hl : leaves g q (w.alloc (.cells (bloC zeroB (.slice none 0 0) (.slice none 0 0)) 57)) w2) (b : Blo) (P T : Value) => RdAt.mk' h hl b P T)
 obtain ⟨v, c, q, s, n, s2, m, s3, ev, ec, es, en, es2, em, es3, hz⟩ := qd5 p
 rw [hz]
 clear hz
 have hn0 := fun W h => qdC g p W h
 have hn1 := fun W h => qdC g (numS p) W h
 have hn2 := fun W h => qdC g (numS (numS p)) W h
 have hn3 := fun W h => qdC g (numS (numS (numS p))) W h
 have ht := fun W h => c_take g (rS p) W h
 rw [ec] at ht
 have hrs : numS (numS (numS (numS p))) = rS p := rfl
 rw [hrs] at hn3
 obtain ⟨q4, e4⟩ := nm (rS p)
 rw [<- e4] at ht hn3
 obtain ⟨z3, f3⟩ := nm (numV (numS (numS (numS p))))
 obtain ⟨q3, e3⟩ := nm (numS (numS (numS p)))
 rw [<- f3, <- e3] at hn3
 rw [<- f3]
 rw [<- e3] at hn2
 obtain ⟨z2, f2⟩ := nm (numV (numS (numS p)))
 obtain ⟨q2, e2⟩ := nm (numS (numS p))
 rw [<- f2, <- e2] at hn2
 rw [<- f2]
 rw [<- e2] at hn1
 obtain ⟨z1, f1⟩ := nm (numV (numS p))
 obtain ⟨q1, e1⟩ := nm (numS p)
 rw [<- f1, <- e1] at hn1
 rw [<- f1]
 rw [<- e1] at hn0
 obtain ⟨z0, f0⟩ := nm (numV p)
 rw [<- f0] at hn0 ev
 have HH := hid (And.intro hn0 (And.intro hn1 (And.intro hn2 (And.intro hn3 ht))))
 have hl2 : listG (oneT v) n s = listG (oneT v) (mostV 10 q).toNat (mostS 10 q) := by rw [en, es]
 have hi2 : s2 = itG (oneT v) (mostV 10 q).toNat (mostS 10 q) := by rw [es2, en, es]
 have hl3 : listG takeT m s3 = listG takeT (mostV 8 s2).toNat (mostS 8 s2) := by rw [em, es3]
 have hi3 : itG takeT m s3 = itG takeT (mostV 8 s2).toNat (mostS 8 s2) := by rw [em, es3]
 have HRT := hid (fun (W : World) (G : Nat) (hr : Rdr W g q) (hG : W.cell? ⟨G, 0, none⟩ = some (.int .i64 v)) (hne : G ≠ g) => qk3 g G v 10 q W hr hG hne (by omega) (by omega))
 have HRX := hid (fun (W : World) (hr : Rdr W g s2) (hg : w.grownBy W (some g)) => qk4 g 8 s2 W hr (fun W2 h2 => hT W2 (L3.qa3 hg h2)) (by omega) (by omega))
 rw [<- hl2, <- hi2] at HRT
 rw [<- hl3, <- hi3] at HRX
 obtain ⟨L, eL⟩ := nm (listG (oneT v) n s)
 obtain ⟨X, eX⟩ := nm (listG takeT m s3)
 obtain ⟨qe, eqe⟩ := nm (itG takeT m s3)
 rw [<- eL] at HRT ⊢
 rw [<- eX, <- eqe] at HRX ⊢
 have EV := hid ev
 clear hn0 hn1 hn2 hn3 ht ev ec es en es2 em es3 hrs e4 f3 e3 f2 e2 f1 e1 f0 hl2 hi2 hl3 hi3 eL eX eqe hT h
 go_enter Tryz.func162, Tryz.ntmps162
 go_upto_region 1 with fail
 refine qab (fun w0 hw0 => ?_)
 have hR0 : Rdr w0 g p := by rw [hw0]; exact HR0.out
 have HM0 : Hid (∀ w2 q, leaves g q w0 w2 -> ∀ (b : Blo) (P T : Value), RdAt w g w2.heap.size b P T q (w2.alloc (.cells (bloC b P T) 57))) := hid (by rw [hw0]; exact HM.out)
 clear hw0 HM HR0
 go_upto_region 2 with (first
  | (go_at_call 183; (with_reducible refine (HH.out.1 _ hR0).mono ?_); rintro e w1 ⟨rfl, hl1⟩; have hd1 := hl1.1)
  | (go_at_call 183; (with_reducible refine (HH.out.2.1 _ hd1).mono ?_); rintro e w2 ⟨rfl, hl2⟩; have hd2 := hl2.1)
  | (go_at_call 183; (with_reducible refine (HH.out.2.2.1 _ hd2).mono ?_); rintro e w3 ⟨rfl, hl3⟩; have hd3 := hl3.1)
  | (go_at_call 183; (with_reducible refine (HH.out.2.2.2.1 _ hd3).mono ?_); rintro e w4 ⟨rfl, hl4⟩; have hd4 := hl4.1)
  | (go_at_call 182; refine (qjd _ _).mono ?_; rintro e x ⟨rfl, rfl⟩)
  | (go_at_call 184; refine (HH.out.2.2.2.2 _ hd4).mono ?_; rintro e w5 ⟨rfl, hl5⟩)
  | (refine wpList_build rfl _ _ rfl #[(0, .int .i64 (fitB z0)), (1, .int .i64 (fitB z1)), (2, .int .i64 (fitB z2)), (3, .int .i64 (fitB z3)), (4, .agg (crtC c))] rfl (build_bk _ _ _ _ _ _) ?_)
  | (refine qaf rfl _ _ _ rfl _ (bloC ⟨fitB z0, fitB z1, fitB z2, fitB z3, c, [], []⟩ (.slice none 0 0) (.slice none 0 0)) rfl rfl _ _ bloInfo rfl (qaR _ _ _ _ _ _ _) ?_))
 have hA := HM0.out _ _ ((((hl1.trans hl2).trans hl3).trans hl4).trans hl5) ⟨fitB z0, fitB z1, fitB z2, fitB z3, c, [], []⟩ (.slice none 0 0) (.slice none 0 0)
 obtain ⟨G, hG⟩ := nm (w5.heap.size)
 rw [<- hG] at hA
 rw [<- hG]
 refine qab (fun w6 hw6 => ?_)
 rw [<- hw6] at hA
 clear hG hd1 hd2 hd3 hd4 hl1 hl2 hl3 hl4 hl5 hw6 HM0 hR0 HH
 rw [<- EV.out] at hA ⊢
 have hlt := hA.lt
 have hG0 : w6.cell? ⟨G, 0, none⟩ = some (.int .i64 v) := hA.bx.cell 0
 have hTs := HRT.out w6 G hA.rdr hG0 (by omega)
 go_upto_region 3 with (first
  | (go_at_call 185; refine hTs.mono ?_; rintro e w7 ⟨v7, rfl, hr7, hl7⟩
     obtain ⟨A7, c7, rfl, hp7, ho7⟩ := Rd.of_row (f := tmL) (k := 10) (fun _ => rfl) hr7
     have hA7 := hA.next hl7
     have f12 := hA7.bx.frozen 12
     have b12 : w7.cell? ⟨G, 12, none⟩ = some (.slice none 0 0) := hA7.bx.cell 12))
 have hB := hA7.set_ 12 (.slice A7 L.length c7) ⟨v, fitB z1, fitB z2, fitB z3, c, L, []⟩ (.slice A7 L.length c7) (.slice none 0 0) rfl
 have hpB : Rd tmL 10 (w7.setCell ⟨G, 12, none⟩ (.slice A7 L.length c7)) A7 L := hp7.kept (qbE _ _ _ _) (Off.of_ge (B := w6.heap.size) (fun ad e => (ho7 ad e).1) (fun k hk => by have := hA.bx.lt; omega))
 have hoB : ∀ ad, A7 = some ad -> w.heap.size + 1 <= ad.block := fun ad e => by have h1 := (ho7 ad e).1; have h2 := hA.bx.lt; have h3 := hA.lt.2; omega
 have HOFF : Off (fun k => k = G) A7 := Off.of_ge (B := w6.heap.size) (fun ad e => (ho7 ad e).1) (fun k hk => by have := hA.bx.lt; omega)
 refine qab (fun w8 hw8 => ?_)
 rw [<- hw8] at hB hpB
 clear hw8 hTs hA hA7 hr7 hl7 f12 b12 hp7 ho7 hG0
 have hXs := HRX.out w8 hB.rdr hB.gr
 go_upto_region 4 with (first
  | (go_at_call 187; refine hXs.mono ?_; rintro e w9 ⟨v9, rfl, hr9, hl9⟩
     obtain ⟨A9, c9, rfl, hp9, ho9⟩ := Rd.of_row (f := txL) (k := 7) (fun _ => rfl) hr9
     have hB9 := hB.next hl9
     have f13 := hB9.bx.frozen 13
     have b13 : w9.cell? ⟨G, 13, none⟩ = some (.slice none 0 0) := hB9.bx.cell 13))
 have hC := hB9.set_ 13 (.slice A9 X.length c9) ⟨v, fitB z1, fitB z2, fitB z3, c, L, X⟩ (.slice A7 L.length c7) (.slice A9 X.length c9) rfl
 have hpC : Rd tmL 10 (w9.setCell ⟨G, 13, none⟩ (.slice A9 X.length c9)) A7 L := (hpB.kept (qf3 hl9.2) (Off.of_ge hoB (fun k hk => by omega))).kept (qbE _ _ _ _) HOFF
 have hxC : Rd txL 7 (w9.setCell ⟨G, 13, none⟩ (.slice A9 X.length c9)) A9 X := hp9.kept (qbE _ _ _ _) (Off.of_ge (B := w8.heap.size) (fun ad e => (ho9 ad e).1) (fun k hk => by have := hB.bx.lt; omega))
 have hoC : ∀ ad, A9 = some ad -> w.heap.size + 1 <= ad.block := fun ad e => by have h1 := (ho9 ad e).1; have h2 := hB.bx.lt; have h3 := hB.lt.2; omega
 refine qab (fun w10 hw10 => ?_)
 rw [<- hw10] at hC hpC hxC
 clear hw10 hXs hB hB9 hr9 hl9 f13 b13 hp9 ho9 hpB
 go_wp2_with (first
  | (refine qaa rfl _ _ rfl G rfl _ _ _ _ hC.bx Tryz.underlying57 rfl bloInfo ?_)
  | (refine wpList_store_row rfl _ _ _ rfl w.heap.size (bloC ⟨v, fitB z1, fitB z2, fitB z3, c, L, X⟩ (.slice A7 L.length c7) (.slice A9 X.length c9)) rfl rfl _ _ hC.re bloInfo rfl (qaR _ _ _ _ _ _ _) ?_))
 (try simp only [Exit.inBlock, Exit.then])
 refine bodyPost_ret (v := .agg (bloC ⟨v, fitB z1, fitB z2, fitB z3, c, L, X⟩ (.slice A7 L.length c7) (.slice A9 X.length c9))) (qan rfl _ _ w.heap.size rfl _ _ _ _ (qac hC.re) Tryz.underlying57 rfl bloInfo) rfl ?_
 refine ⟨.slice A7 L.length c7, .slice A9 X.length c9, rfl, ?_, qbn hC.rdr hlt.1 _, qaJ hC.gr (Nat.le_refl _) _⟩
 have ht := qaB w10 w.heap.size (bloC ⟨v, fitB z1, fitB z2, fitB z3, c, L, X⟩ (.slice A7 L.length c7) (.slice A9 X.length c9))
 exact ⟨A7, c7, A9, c9, rfl, rfl, hpC.kept ht (Off.of_ge hoB (fun k hk => by omega)), hxC.kept ht (Off.of_ge hoC (fun k hk => by omega)), hoB, hoC⟩
end Go.Proofs.YtomaaidhmccngaaGreatDoor
namespace Go.Proofs.YtomaaidhmccngaaGreatDoor
open Go.RowKit Go.Maps Go.Lib
open L3 (Blk Reads Rdr leaves numS failS rdN mostV mostS doneV)
open L6 (Turn)
open L11 (Crt zeroC crtL crtC mayV takeC crtInfo qal)
theorem qiv (g : Nat) (p : List UInt8 × Int) (w : World) (h : Rdr w g p) : Calls Tryz.prog 164 #[.pointer (some ⟨g, 0, none⟩)] w fun e w' => e = .returned (.bool (decide (p.2 ≠ 0))) /\ w = w' := by
 have hR := L3.qft g p w h
 have hD := L3.qdS g p w h
 have he : p.2 ≠ 0 -> p.1 = [] := by obtain ⟨_, _, _, _, _, _, he⟩ := h; exact he
 by_cases h0 : p.1.length = 0
 ·rw [qgs p he h0] at hD
  obtain ⟨e, hp⟩ := nm (p.2)
  obtain ⟨n, hn⟩ := nm (p.1.length)
  rw [<- hn] at hR h0
  rw [<- hp] at hD ⊢
  subst h0
  clear hp hn he h
  by_cases e0 : e = 0
  ·subst e0
   go_enter Tryz.func164, Tryz.ntmps164
   go_wp2_with (first
    | (go_at_call 189; refine hR.mono ?_; rintro e w1 ⟨rfl, rfl⟩)
    | (go_at_call 134; refine hD.mono ?_; rintro e w1 ⟨rfl, rfl⟩))
   go_ret
   exact ⟨rfl, rfl⟩
  ·have e1 : (e == 0) = false := by simpa using e0
   have e2 : (e != 0) = true := by simpa using e0
   have e3 : decide (e ≠ 0) = true := by simpa using e0
   rw [e3]
   clear e0 e3
   go_enter Tryz.func164, Tryz.ntmps164
   go_wp2_with (first
    | (go_at_call 189; refine hR.mono ?_; rintro e w1 ⟨rfl, rfl⟩)
    | (go_at_call 134; refine hD.mono ?_; rintro e w1 ⟨rfl, rfl⟩))
   go_ret
   exact ⟨rfl, rfl⟩
 ·have e0 : p.2 = 0 := by
   rcases Classical.em (p.2 = 0) with h1 | h1
   ·exact h1
   ·exact absurd (by rw [he h1]; rfl) h0
  rw [e0]
  obtain ⟨n, hn⟩ := nm (p.1.length)
  rw [<- hn] at hR h0
  have h1 : ((n : Int) == 0) = false := by simp; omega
  clear hn hD he h h0 e0
  go_enter Tryz.func164, Tryz.ntmps164
  go_wp2_with (first
   | (go_at_call 189; refine hR.mono ?_; rintro e w1 ⟨rfl, rfl⟩))
  go_ret
  exact ⟨rfl, rfl⟩
theorem RdAt.below {w W W' : World} {g G : Nat} {b : Blo} {P T : Value} {q : List UInt8 × Int} (h : RdAt w g G b P T q W) (hb : Below W.heap.size W W') : RdAt w g G b P T q W' := by
 have hgr := h.gr
 exact ⟨qbS h.rdr hb h.rdr.lt, h.re.below hb h.re.lt, h.bx.below hb h.bx.lt, ⟨hb.os.trans hgr.os, hb.tape.trans hgr.tape, hb.output.trans hgr.output, Nat.le_trans hgr.size hb.size, fun k hk hne => (hb.block k (Nat.lt_of_lt_of_le hk hgr.size)).trans (hgr.block k hk hne)⟩, h.lt⟩
theorem LiesF.below {B : Nat} {w w' : World} {b : Blo} {P T : Value} (h : LiesF B w b P T) (hb : Below w.heap.size w w') : LiesF B w' b P T := h.turn (L6.Turn.of_keep (S := fun _ => False) hb) (fun k hk => absurd hk id)
def took (g : Nat) (z : Blo × (List UInt8 × Int)) (w : World) (e : Ending) (w' : World) : Prop :=
 ∃ P T, e = .returned (.agg (bloC z.1 P T)) /\ LiesF (w.heap.size + 1) w' z.1 P T /\ leaves g z.2 w w'
theorem LiesF.form {B : Nat} {w : World} {b : Blo} {P T : Value} (h : LiesF B w b P T) : ∃ A n c D m d, P = .slice A n c /\ T = .slice D m d := by
 obtain ⟨A, c, D, d, h1, h2, _⟩ := h
 exact ⟨A, _, c, D, _, d, h1, h2⟩
theorem qmL (g : Nat) (p : List UInt8 × Int) (w : World) (h : Rdr w g p) (hT : ∀ W, w.grownBy W (some g) -> Tabs W) :
 Calls Tryz.prog 133 #[.pointer (some ⟨g, 0, none⟩)] w (took g (takeB p) w) := by
 have hwf := readB_wf p
 have hg0 := World.grownBy_alloc w (.cells (bloC zeroB (.slice none 0 0) (.slice none 0 0)) 57) (some g)
 have HR := hid (qmn g p (w.alloc (.cells (bloC zeroB (.slice none 0 0) (.slice none 0 0)) 57)) (qaT h _) (fun W hW => hT W (L3.qa3 hg0 hW)))
 have HM := hid (fun w2 q (hl : leaves g q (w.alloc (.cells (bloC zeroB (.slice none 0 0) (.slice none 0 0)) 57)) w2) (b : Blo) (P T : Value) => RdAt.mk' h hl b P T)
 have hsz : (w.alloc (.cells (bloC zeroB (.slice none 0 0) (.slice none 0 0)) 57)).heap.size = w.heap.size + 1 := by simp
 obtain ⟨r, hX⟩ := nm (takeB p)
 rw [<- hX]
 unfold takeB at hX
 obtain ⟨z, hz⟩ := nm (readB p)
 rw [<- hz] at hX HR hwf
 obtain ⟨b, q⟩ := z
 dsimp only at hX hwf
 have HR2 : Hid (Calls Tryz.prog 162 #[.pointer (some ⟨g, 0, none⟩)] (w.alloc (.cells (bloC zeroB (.slice none 0 0) (.slice none 0 0)) 57)) fun e w' => ∃ P T, e = .returned (.agg (bloC b P T)) /\ LiesF (w.heap.size + 1 + 1) w' b P T /\ leaves g q (w.alloc (.cells (bloC zeroB (.slice none 0 0) (.slice none 0 0)) 57)) w') := hid (by rw [<- hsz]; exact HR.out)
 have HXX := hid hX
 have HT := hid hT
 have HWF := hid hwf
 clear hX hT hwf hz hg0 HR hsz h
 go_enter Tryz.func133, Tryz.ntmps133
 go_upto_region 1 with fail
 refine qab (fun w0 hw0 => ?_)
 have HR3 : Hid (Calls Tryz.prog 162 #[.pointer (some ⟨g, 0, none⟩)] w0 fun e w' => ∃ P T, e = .returned (.agg (bloC b P T)) /\ LiesF (w.heap.size + 1 + 1) w' b P T /\ leaves g q w0 w') := hid (by rw [hw0]; exact HR2.out)
 have HM0 : Hid (∀ w2 q, leaves g q w0 w2 -> ∀ (b : Blo) (P T : Value), RdAt w g w2.heap.size b P T q (w2.alloc (.cells (bloC b P T) 57))) := hid (by rw [hw0]; exact HM.out)
 clear hw0 HM HR2
 go_upto_region 2 with (first
  | (go_at_call 162; refine HR3.out.mono ?_; rintro e w2 ⟨P, T, rfl, hL2, hl2⟩; obtain ⟨A2, n2, c2, D2, m2, d2, rfl, rfl⟩ := hL2.form)
  | (refine qaf rfl _ _ _ rfl _ (bloC b (.slice A2 n2 c2) (.slice D2 m2 d2)) rfl rfl _ _ bloInfo rfl (qaR _ _ _ _ _ _ _) ?_))
 have hA := HM0.out _ _ hl2 b (.slice A2 n2 c2) (.slice D2 m2 d2)
 have hLA := hL2.below (qae w2 (.cells (bloC b (.slice A2 n2 c2) (.slice D2 m2 d2)) 57))
 obtain ⟨G, hG⟩ := nm (w2.heap.size)
 rw [<- hG] at hA
 rw [<- hG]
 refine qab (fun w3 hw3 => ?_)
 rw [<- hw3] at hA hLA
 clear hG hl2 hL2 hw3 HM0 HR3
 have hck := qeo b _ _ w3 HWF.out hLA.lies (HT.out _ hA.gr)
 obtain ⟨k, hk⟩ := nm (checkV b)
 have hX := HXX.out
 rw [<- hk] at hck hX
 obtain ⟨q2, hq2⟩ := nm (failS k q)
 rw [<- hq2] at hX
 have HF := hid (fun W (hR : Rdr W g q) => L3.qcs g q k W hR)
 rw [<- hq2] at HF
 have HK := hid hck
 have HX := hid hX
 clear hck hX hk hq2 HXX
 go_upto_region 3 with (first
  | (refine qaa rfl _ _ rfl G rfl _ _ _ _ hA.bx Tryz.underlying57 rfl bloInfo ?_)
  | (go_at_call 137; refine HK.out.mono ?_; unfold gives; rintro e w4 ⟨rfl, hb4⟩; have hB := hA.below hb4; have hLB := hLA.below hb4; have hrB := hB.rdr)
  | (go_at_call 163; refine (HF.out _ hrB).mono ?_; rintro e w5 ⟨rfl, hl5⟩; have hC := hB.next hl5; have hLC := hLB.turn (qf3 hl5.2) (fun k hk => by have := hB.lt; omega)))
 have hlt := hC.lt
 clear hA hLA hB hLB hrB hl5 hb4 HK HF
 have hf := qiv g q2 w5 hC.rdr
 by_cases hq : q2.2 ≠ 0
 ·have hX := HX.out
  rw [if_pos hq] at hX
  rw [decide_eq_true hq] at hf
  have HX2 := hid hX
  clear HX hX hq
  go_wp2_with (first
   | (go_at_call 164; refine hf.mono ?_; rintro e w6 ⟨rfl, rfl⟩)
   | (refine wpList_build rfl _ _ rfl #[] rfl (qch _) ?_)
   | (refine wpList_store_row rfl _ _ _ rfl w.heap.size (bloC zeroB (.slice none 0 0) (.slice none 0 0)) rfl rfl _ _ hC.re bloInfo rfl (qaR _ _ _ _ _ _ _) ?_))
  (try simp only [Exit.inBlock, Exit.then])
  refine bodyPost_ret (v := .agg (bloC zeroB (.slice none 0 0) (.slice none 0 0))) (qan rfl _ _ w.heap.size rfl _ _ _ _ (qac hC.re) Tryz.underlying57 rfl bloInfo) rfl ?_
  rw [HX2.out]
  exact ⟨_, _, rfl, qbq _ _, qbn hC.rdr hlt.1 _, qaJ hC.gr (Nat.le_refl _) _⟩
 ·have hX := HX.out
  rw [if_neg hq] at hX
  rw [decide_eq_false hq] at hf
  have HX2 := hid hX
  clear HX hX hq
  go_wp2_with (first
   | (go_at_call 164; refine hf.mono ?_; rintro e w6 ⟨rfl, rfl⟩)
   | (refine qaa rfl _ _ rfl G rfl _ _ _ _ hC.bx Tryz.underlying57 rfl bloInfo ?_)
   | (refine wpList_store_row rfl _ _ _ rfl w.heap.size (bloC b (.slice A2 n2 c2) (.slice D2 m2 d2)) rfl rfl _ _ hC.re bloInfo rfl (qaR _ _ _ _ _ _ _) ?_))
  (try simp only [Exit.inBlock, Exit.then])
  refine bodyPost_ret (v := .agg (bloC b (.slice A2 n2 c2) (.slice D2 m2 d2))) (qan rfl _ _ w.heap.size rfl _ _ _ _ (qac hC.re) Tryz.underlying57 rfl bloInfo) rfl ?_
  rw [HX2.out]
  exact ⟨_, _, rfl, (hLC.turn (qaB _ _ _) (fun k hk => by omega)).le (by omega), qbn hC.rdr hlt.1 _, qaJ hC.gr (Nat.le_refl _) _⟩
end Go.Proofs.YtomaaidhmccngaaGreatDoor
namespace Go.Proofs.YtomaaidhmccngaaGreatDoor
open Go.RowKit Go.Maps Go.Lib
open L3 (Blk Reads Rdr leaves numS failS rdN mostV mostS doneV)
open L6 (Turn)
open L11 (Crt zeroC crtL crtC mayV takeC crtInfo qal)
def parsedF (l : List UInt8) (w : World) (e : Ending) (w' : World) : Prop :=
 ∃ P T, e = .returned (.tuple #[.agg (bloC (parseB l).1 P T), .int .i64 (parseB l).2]) /\ LiesF w.heap.size w' (parseB l).1 P T /\ Below w.heap.size w w'
theorem qgZ {B : Nat} {w W W' : World} {g : Nat} {q : List UInt8 × Int} (h : Below B w W) (hl : leaves g q W W') (hg : B <= g) (hB : B <= W.heap.size) : Below B w W' := h.grown hl.2 hB (fun k hk => by injection hk with hk; omega)
theorem qkv (l : List UInt8) (w : World) (hl : l.length <= 100000000) (hT : Tabs w) : Calls Tryz.prog 81 #[.string (str l)] w (parsedF l w) := by
 have hX : parseB l = endP (takeB (l, 0)) := rfl
 have k0 := qby w 57 zeroB (.slice none 0 0) (.slice none 0 0)
 have hb0 := qae w (.cells (bloC zeroB (.slice none 0 0) (.slice none 0 0)) 57)
 have Z0 := hid (And.intro k0 hb0)
 unfold parsedF
 rw [hX]
 obtain ⟨z, hz⟩ := nm (takeB (l, 0))
 have HTK := hid (fun g W h hT => qmL g (l, 0) W h hT)
 rw [<- hz] at HTK ⊢
 obtain ⟨b, q⟩ := z
 have HL := hid hl
 have HT := hid hT
 clear k0 hb0 hX hz hl hT
 go_enter Tryz.func81, Tryz.ntmps81
 go_upto_region 1 with fail
 refine qab (fun w0 hw0 => ?_)
 have hk0 : Blk w0 w.heap.size 57 (bloC zeroB (.slice none 0 0) (.slice none 0 0)) := by rw [hw0]; exact Z0.out.1
 have hb0 : Below w.heap.size w w0 := by rw [hw0]; exact Z0.out.2
 clear hw0 Z0
 obtain ⟨c1, w1, hcv, hr1, hb1, hz1⟩ := L3.qmJ w0 (str l)
 rw [qa4, qeb] at hr1
 rw [qa4] at hcv
 have hw1 := nxt hb0 hb1
 have hk1 := hk0.below hb1 hk0.lt
 have hN := L3.qi0 _ _ _ c1 _ _ hr1 (by have := HL.out; omega) (by omega)
 have HN := hid hN
 have H0 := hk0.lt
 clear hr1 hz1 hN hk0
 go_upto_region 2 with (first
  | (go_at_call 132; refine HN.out.mono ?_; rintro e w2 ⟨g, rfl, hg2, hrd2, hb2⟩))
 have hw2 := nxt hw1 hb2
 have hk2 := hk1.below hb2 hk1.lt
 have hgw : w.heap.size < g := by have := hk1.lt; omega
 have hTk := HTK.out g w2 hrd2 (fun W hW => qkK HT.out hw2 (by omega) hW)
 clear hcv HN hb1 hw1 hk1 hb2 hg2 HTK HT hb0 H0
 go_upto_region 3 with (first
  | (go_at_call 133; refine hTk.mono ?_; rintro e w3 ⟨P, T, rfl, hL3, hl3⟩; obtain ⟨A2, n2, c2, D2, m2, d2, rfl, rfl⟩ := hL3.form)
  | (refine qaf rfl _ _ _ rfl _ (bloC b (.slice A2 n2 c2) (.slice D2 m2 d2)) rfl rfl _ _ bloInfo rfl (qaR _ _ _ _ _ _ _) ?_))
 have hw3 := qgZ hw2 hl3 (by omega) (Nat.le_of_lt hk2.lt)
 have hk3 := hk2.grown hl3.2 (fun e => by injection e with e; omega)
 have hb4 := qae w3 (.cells (bloC b (.slice A2 n2 c2) (.slice D2 m2 d2)) 57)
 have hx4 := qby w3 57 b (.slice A2 n2 c2) (.slice D2 m2 d2)
 have hr4 := qaT hl3.1 (.cells (bloC b (.slice A2 n2 c2) (.slice D2 m2 d2)) 57)
 have hk4 := hk3.below hb4 hk3.lt
 have hL4 := hL3.below hb4
 have hw4 := nxt hw3 hb4
 have hgG : w.heap.size < w3.heap.size := hk3.lt
 have hL2 : w.heap.size < w2.heap.size := hk2.lt
 obtain ⟨G, hG⟩ := nm (w3.heap.size)
 rw [<- hG] at hx4 hgG
 rw [<- hG]
 refine qab (fun w4 hw4' => ?_)
 rw [<- hw4'] at hx4 hr4 hk4 hL4 hw4
 clear hw4' hG hw3 hk3 hb4 hL3 hl3 hw2 hk2 hrd2 hTk
 have hD := L3.qdS g q w4 hr4
 obtain ⟨d, hd⟩ := nm (doneV q)
 rw [<- hd] at hD
 by_cases h0 : d ≠ 0
 ·have hE : endP (b, q) = (zeroB, d) := by unfold endP; dsimp only; rw [<- hd, if_pos h0]
  have HE := hid hE
  have h1 : (d != 0) = true := by simpa using h0
  have h2 : (d == 0) = false := by simpa using h0
  clear hE hd h0
  go_wp2_with (first
   | (go_at_call 134; refine hD.mono ?_; rintro e w5 ⟨rfl, rfl⟩)
   | (refine wpList_build rfl _ _ rfl #[] rfl (qch _) ?_)
   | (refine wpList_store_row rfl _ _ _ rfl w.heap.size (bloC zeroB (.slice none 0 0) (.slice none 0 0)) rfl rfl _ _ hk4 bloInfo rfl (qaR _ _ _ _ _ _ _) ?_))
  (try simp only [Exit.inBlock, Exit.then])
  refine bodyPost_ret (v := .tuple #[.agg (bloC zeroB (.slice none 0 0) (.slice none 0 0)), .int .i64 d]) (qaN rfl _ _ w.heap.size rfl (.int .i64 d) rfl _ (bloC zeroB (.slice none 0 0) (.slice none 0 0)) _ _ (qac hk4) Tryz.underlying57 rfl bloInfo) rfl ?_
  rw [HE.out]
  exact ⟨_, _, rfl, qbq _ _, below_setRow hw4 (Nat.le_refl _)⟩
 ·have h0' : d = 0 := Decidable.not_not.1 h0
  subst h0'
  have hE : endP (b, q) = (b, 0) := by unfold endP; dsimp only; rw [<- hd, if_neg h0]
  have HE := hid hE
  clear hE hd h0
  go_wp2_with (first
   | (go_at_call 134; refine hD.mono ?_; rintro e w5 ⟨rfl, rfl⟩)
   | (refine qaa rfl _ _ rfl G rfl _ _ _ _ hx4 Tryz.underlying57 rfl bloInfo ?_)
   | (refine wpList_store_row rfl _ _ _ rfl w.heap.size (bloC b (.slice A2 n2 c2) (.slice D2 m2 d2)) rfl rfl _ _ hk4 bloInfo rfl (qaR _ _ _ _ _ _ _) ?_))
  (try simp only [Exit.inBlock, Exit.then])
  refine bodyPost_ret (v := .tuple #[.agg (bloC b (.slice A2 n2 c2) (.slice D2 m2 d2)), .int .i64 0]) (qaN rfl _ _ w.heap.size rfl (.int .i64 0) rfl _ (bloC b (.slice A2 n2 c2) (.slice D2 m2 d2)) _ _ (qac hk4) Tryz.underlying57 rfl bloInfo) rfl ?_
  rw [HE.out]
  exact ⟨_, _, rfl, (hL4.turn (qaB _ _ _) (fun k hk => by omega)).le (by omega), below_setRow hw4 (Nat.le_refl _)⟩
theorem qhf {b : Blo} (h : checkV b = 0) : b.wf := by
 obtain ⟨hh, hp, hr⟩ := qb3 h
 obtain ⟨h1, h2, h3, h4, h5⟩ := qb4 hh
 obtain ⟨p1, p2, p3, p4, p5⟩ := qbb hp
 have mw : ∀ c : Crt, mayV c = true -> c.wf := fun c hc => by
  by_cases h0 : c.kind = 0
  ·rw [L11.qdL hc h0]; exact L11.qcN
  ·by_cases h1 : c.kind = 1
   ·obtain ⟨a0, a1, a2, a3⟩ := L11.qeu hc h1
    obtain ⟨s1, s2, s3, s4, s5⟩ := L11.qbx a0
    exact ⟨by unfold L11.inI; omega, by unfold L11.inI; omega, by unfold L11.inI; omega, by unfold L11.inI; omega, by unfold L11.inI; omega, by unfold L11.inI; omega, by unfold L11.inU; omega, by unfold L11.inU; omega⟩
   ·obtain ⟨a, a0, a1, a2, a3⟩ := L11.qcT hc h0 h1
    obtain ⟨s1, s2, s3, s4, s5⟩ := L11.qbx a0
    exact ⟨by unfold L11.inI; omega, by unfold L11.inI; omega, by unfold L11.inI; omega, by unfold L11.inI; omega, by unfold L11.inI; omega, by unfold L11.inI; omega, by unfold L11.inU; omega, by unfold L11.inU; omega⟩
 refine ⟨by unfold inI; omega, by unfold inI; omega, by unfold inI; omega, by unfold inI; omega, mw _ p1, fun t ht => ?_, fun t ht => (qeO (h5 t ht)).le (by omega), ?_, ?_⟩
 ·obtain ⟨t1, t2, t3, t4⟩ := qbD (qc6 hr t ht).1
  exact ⟨by unfold inI; omega, by unfold inI; omega, mw _ t4⟩
 ·have := qcZ hr; omega
 ·omega
