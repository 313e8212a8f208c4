/-
  The walk through the law of which transactions are right, their bytes and their words.
-/
import Derived.Test.YtfoabgjcndgflaaDoorGreat
import Derived.Test.YtfoabgjcndgflaaDoorRefBytesT
import Derived.Test.YtfoabgjcndgflaaDoorRefPrintT
import Derived.Test.YtfoabgjcndgflaaDoorRefCheckT
import Derived.OrdersHeld
import Derived.StillTail
import Derived.StillTactics
set_option linter.unusedSimpArgs false
set_option linter.unusedVariables false
namespace Go.Proofs.YtfoabgjcndgflaaDoor.lawWritesWalk
open Go.RowKit Go.Lib

/-- A callee that keeps what is held: what it hands back is known. -/
theorem wpQuiet_fn {P : Program} {ops : Array Oper} {S : World → Prop} {o : Oper} {rest : List Oper} {a : Act} {Qa : Act → Prop} (hg : Region.wanted o (yielded ops a.tmps) = true) (f : FuncId) (xs : Array Operand) (ts : Array TypeId)
    (ho : o.op = .call { callee := .value (.func f), args := xs, argTypes := ts }) (hc : ∀ args w, (callFunc f args).run P w = .ok (.enter f args) w) (args : List Value) (ha : xs.toList.map a.eval = args) {v : Value}
    (hv : ∀ x : WorldIn S, Calls P f args.toArray x.w fun e w' => e = .returned v ∧ S w')
    (h : wpQuiet P ops (fun w' => ∃ x : WorldIn S, w' = x.w) Qa rest (a.put o.dst v)) : wpQuiet P ops (fun w' => ∃ x : WorldIn S, w' = x.w) Qa (o :: rest) a := by
  refine wpQuiet_call hg f args.toArray (fun w => ?_) hv h
  have ha' : xs.map a.eval = args.toArray := by apply Array.toList_inj.1; rw [Array.toList_map]; exact ha
  simp [execOp, ho, resolve, invoke, Deferred.ofValue, hc, ← ha', Act.eval]
theorem conv_at {w : World} {B c : Nat} {A : Option Addr} {l : List UInt8} (h : L3.Reads w B 1 A l.length (byteCells l)) :
    (convert 26 9 (.slice A l.length c)).run Tryd.prog w = .ok (.string (str l)) w := by
  have h1 := L3.conv_reads (c := c) h (Nat.le_refl _)
  rw [h1, List.take_length]; rfl
set_option maxHeartbeats 1000000 in
set_option maxRecDepth 100000 in
theorem great_walk (t : Txx) (w : World) (hT : Tabs w) (hg : greatB t = true) : Calls Tryd.prog 3 #[.agg (txC t)] w (gives (.bool true) w) := by
  have hb0 : Below w.heap.size w (w.alloc (.cells (txC t) 23)) := below_box _ t
  have k0 := box_new w 23 t
  have hal := alive_any _ (hT.kept hb0)
  have hgr := fun W => great_any t W
  rw [hg] at hgr
  clear hT hg
  go_enter Tryd.func3, Tryd.ntmps3
  go_wp2_with (first
    | (go_at_call 6; refine hal.mono ?_; unfold gives; rintro e w1 ⟨rfl, hb1⟩; have k1 := k0.below hb1 k0.lt; replace hb1 := nxt hb0 hb1)
    | (refine wpList_row_at rfl _ _ rfl (w.heap.size) rfl _ _ _ _ k1 Tryd.underlying23 rfl (by kernel_rfl) ?_)
    | (go_at_call 7; refine (hgr _).mono ?_; unfold gives; rintro e w2 ⟨rfl, hb2⟩; replace hb2 := nxt hb1 hb2))
  go_ret
  exact ⟨rfl, hb2⟩
set_option maxHeartbeats 2000000 in
set_option maxRecDepth 100000 in
theorem wrong_walk (t : Txx) (w : World) (hT : Tabs w) (hwf : t.wf 1000) (hg : greatB t = false) (hr : right t = false) : Calls Tryd.prog 3 #[.agg (txC t)] w (gives (.bool true) w) := by
  have hwf := hwf.le (show 1000 ≤ 1000000 by omega)
  have hb0 : Below w.heap.size w (w.alloc (.cells (txC t) 23)) := below_box _ t
  have k0 := box_new w 23 t
  have hal := alive_any _ (hT.kept hb0)
  have hgr := fun W => great_any t W
  rw [hg] at hgr
  have hby := fun W hW => bytes_no t W hwf hW hr
  have hpr := fun W hW => print_no t W hwf hW hr
  have hck := fun W hW => check_any t W hwf hW
  have hrc := fun W => refcheck_any t W hwf
  rw [hr] at hck hrc
  have HT := Lib.hid (fun w' (hb : Below w.heap.size w w') => hT.kept hb)
  have HH := Lib.hid (And.intro hal (And.intro hgr (And.intro hby (And.intro hpr (And.intro hck hrc)))))
  clear hT hg hal hgr hby hpr hck hrc hwf hr
  go_enter Tryd.func3, Tryd.ntmps3
  go_wp2_with (first
    | (go_at_call 6; refine HH.out.1.mono ?_; unfold gives; rintro e w1 ⟨rfl, hb1⟩; have k1 := k0.below hb1 k0.lt; replace hb1 := nxt hb0 hb1)
    | (refine wpList_row_at rfl _ _ rfl (w.heap.size) rfl _ _ _ _ k1 Tryd.underlying23 rfl (by kernel_rfl) ?_)
    | (go_at_call 7; refine (HH.out.2.1 _).mono ?_; unfold gives; rintro e w2 ⟨rfl, hb2⟩; have k2 := k1.below hb2 k1.lt; replace hb2 := nxt hb1 hb2)
    | (refine wpList_row_at rfl _ _ rfl (w.heap.size) rfl _ _ _ _ k2 Tryd.underlying23 rfl (by kernel_rfl) ?_)
    | (go_at_call 8; refine (HH.out.2.2.1 _ (HT.out _ hb2)).mono ?_; unfold gives; rintro e w3 ⟨rfl, hb3⟩; have k3 := k2.below hb3 k2.lt; replace hb3 := nxt hb2 hb3)
    | (refine wpList_row_at rfl _ _ rfl (w.heap.size) rfl _ _ _ _ k3 Tryd.underlying23 rfl (by kernel_rfl) ?_)
    | (go_at_call 9; refine (HH.out.2.2.2.1 _ (HT.out _ hb3)).mono ?_; unfold gives; rintro e w4 ⟨rfl, hb4⟩; have k4 := k3.below hb4 k3.lt; replace hb4 := nxt hb3 hb4)
    | (refine wpList_row_at rfl _ _ rfl (w.heap.size) rfl _ _ _ _ k4 Tryd.underlying23 rfl (by kernel_rfl) ?_)
    | (go_at_call 10; refine (HH.out.2.2.2.2.1 _ (HT.out _ hb4)).mono ?_; unfold gives errI; rintro e w5 ⟨rfl, hb5⟩; have k5 := k4.below hb5 k4.lt; replace hb5 := nxt hb4 hb5)
    | (refine wpList_row_at rfl _ _ rfl (w.heap.size) rfl _ _ _ _ k5 Tryd.underlying23 rfl (by kernel_rfl) ?_)
    | (go_at_call 11; refine (HH.out.2.2.2.2.2 _).mono ?_; unfold gives; rintro e w6 ⟨rfl, hb6⟩; replace hb6 := nxt hb5 hb6))
  go_ret
  exact ⟨rfl, hb6⟩
set_option maxHeartbeats 4000000 in
set_option maxRecDepth 100000 in
theorem right_walk (t : Txx) (w : World) (hT : Tabs w) (hwf : t.wf 1000) (hg : greatB t = false) (hr : right t = true) : Calls Tryd.prog 3 #[.agg (txC t)] w (gives (.bool true) w) := by
  have hwf := hwf.le (show 1000 ≤ 1000000 by omega)
  have hb0 : Below w.heap.size w (w.alloc (.cells (txC t) 23)) := below_box _ t
  have k0 := box_new w 23 t
  have hal := alive_any _ (hT.kept hb0)
  have hgr := fun W => great_any t W
  rw [hg] at hgr
  have hby := fun W hW => bytes_ok t W hW hr
  have hpr := fun W hW => print_ok t W hW hr
  have hck := fun W hW => check_any t W hwf hW
  have hrc := fun W => refcheck_any t W hwf
  have hrb := fun W => refbytes_any t W hr
  have hrp := fun W => refprint_any t W hr
  rw [hr] at hck hrc
  obtain ⟨bs, hbs⟩ : ∃ b, b = bytesT t := ⟨_, rfl⟩
  obtain ⟨ws, hws⟩ : ∃ b, b = wordsT t := ⟨_, rfl⟩
  rw [← hbs] at hby hrb
  rw [← hws] at hpr hrp
  have HT := Lib.hid (fun w' (hb : Below w.heap.size w w') => hT.kept hb)
  have HH := Lib.hid (And.intro hal (And.intro hgr (And.intro hby (And.intro hpr (And.intro hck (And.intro hrc (And.intro hrb hrp)))))))
  clear hT hg hal hgr hby hpr hck hrc hwf hr hrb hrp hbs hws
  go_enter Tryd.func3, Tryd.ntmps3
  go_upto_region 10 with (first
    | (go_at_call 6; refine HH.out.1.mono ?_; unfold gives; rintro e w1 ⟨rfl, hb1⟩; have k1 := k0.below hb1 k0.lt; replace hb1 := nxt hb0 hb1)
    | (refine wpList_row_at rfl _ _ rfl (w.heap.size) rfl _ _ _ _ k1 Tryd.underlying23 rfl (by kernel_rfl) ?_)
    | (go_at_call 7; refine (HH.out.2.1 _).mono ?_; unfold gives; rintro e w2 ⟨rfl, hb2⟩; have k2 := k1.below hb2 k1.lt; replace hb2 := nxt hb1 hb2)
    | (refine wpList_row_at rfl _ _ rfl (w.heap.size) rfl _ _ _ _ k2 Tryd.underlying23 rfl (by kernel_rfl) ?_)
    | (go_at_call 8; refine (HH.out.2.2.1 _ (HT.out _ hb2)).mono ?_; unfold made; rintro e w3 ⟨A3, c3, rfl, r3, _, hb3⟩; have k3 := k2.below hb3 k2.lt; replace hb3 := nxt hb2 hb3)
    | (refine wpList_row_at rfl _ _ rfl (w.heap.size) rfl _ _ _ _ k3 Tryd.underlying23 rfl (by kernel_rfl) ?_)
    | (go_at_call 9; refine (HH.out.2.2.2.1 _ (HT.out _ hb3)).mono ?_; unfold gives; rintro e w4 ⟨rfl, hb4⟩; have k4 := k3.below hb4 k3.lt; have r4 := (r3.below hb4).more hb4.size; replace hb4 := nxt hb3 hb4)
    | (refine wpList_row_at rfl _ _ rfl (w.heap.size) rfl _ _ _ _ k4 Tryd.underlying23 rfl (by kernel_rfl) ?_)
    | (go_at_call 10; refine (HH.out.2.2.2.2.1 _ (HT.out _ hb4)).mono ?_; unfold gives errI; rintro e w5 ⟨rfl, hb5⟩; have k5 := k4.below hb5 k4.lt; have r5 := (r4.below hb5).more hb5.size; replace hb5 := nxt hb4 hb5)
    | (refine wpList_row_at rfl _ _ rfl (w.heap.size) rfl _ _ _ _ k5 Tryd.underlying23 rfl (by kernel_rfl) ?_)
    | (go_at_call 11; refine (HH.out.2.2.2.2.2.1 _).mono ?_; unfold gives; rintro e w6 ⟨rfl, hb6⟩; have k6 := k5.below hb6 k5.lt; have r6 := (r5.below hb6).more hb6.size; replace hb6 := nxt hb5 hb6))
  clear hb0 hb1 hb2 hb3 hb4 hb5 k0 k1 k2 k3 k4 k5 r3 r4 r5
  have ne : Nonempty (WorldIn (Below w6.heap.size w6)) := ⟨⟨w6, Below.refl _ _⟩⟩
  have pc : ∀ y : WorldIn (Below w6.heap.size w6), (convert 26 9 (.slice A3 bs.length c3)).run Tryd.prog y.w = .ok (.string (str bs)) y.w := fun y => conv_at (r6.below y.h)
  refine wp_region_S (Below w6.heap.size w6) (by kernel_rfl) (by kernel_rfl) (Below.refl w6.heap.size w6).drew ?_
  iterate 13 go_big_quiet_step (fail)
  refine wpQuiet_row rfl _ _ rfl w.heap.size rfl _ _ _ _ (fun y => k6.below y.h k6.lt) Tryd.underlying23 rfl (by kernel_rfl) ?_
  conv => arg 6; simp only [Act.put, List.setIfInBounds_toArray, List.set_cons_zero, List.set_cons_succ]
  refine wpQuiet_fn rfl 12 _ _ rfl Tryd.call12 [.agg (txC t)] rfl (v := .string (str bs)) (fun x => (HH.out.2.2.2.2.2.2.1 x.w).mono fun e w' ⟨he, hb⟩ => ⟨he, nxt x.h hb⟩) ?_
  conv => arg 6; simp only [Act.put, List.setIfInBounds_toArray, List.set_cons_zero, List.set_cons_succ]
  iterate 4 go_big_quiet_step (fail)
  refine wpQuiet_row rfl _ _ rfl w.heap.size rfl _ _ _ _ (fun y => k6.below y.h k6.lt) Tryd.underlying23 rfl (by kernel_rfl) ?_
  conv => arg 6; simp only [Act.put, List.setIfInBounds_toArray, List.set_cons_zero, List.set_cons_succ]
  refine wpQuiet_fn rfl 13 _ _ rfl Tryd.call13 [.agg (txC t)] rfl (v := .string (str ws)) (fun x => (HH.out.2.2.2.2.2.2.2 x.w).mono fun e w' ⟨he, hb⟩ => ⟨he, nxt x.h hb⟩) ?_
  conv => arg 6; simp only [Act.put, List.setIfInBounds_toArray, List.set_cons_zero, List.set_cons_succ]
  iterate 3 go_big_quiet_step (fail)
  refine wpQuiet_nil ?_
  intro x
  obtain ⟨W, hW⟩ := x
  dsimp only
  go_wp2
  go_ret
  exact ⟨rfl, nxt hb6 hW⟩
theorem walk (t : Txx) (w : World) (n : Nat) (hT : Tabs w) (hwf : t.wf n) : Calls Tryd.prog 3 #[.agg (txC t)] w fun e w' => e = .returned (.bool true) ∧ Below w.heap.size w w' := by
  rcases Bool.eq_false_or_eq_true (greatB t) with hg | hg
  · exact great_walk t w hT hg
  · have h := great_wf hwf hg
    rcases Bool.eq_false_or_eq_true (right t) with hr | hr
    · exact right_walk t w hT h hg hr
    · exact wrong_walk t w hT h hg hr
end Go.Proofs.YtfoabgjcndgflaaDoor.lawWritesWalk
