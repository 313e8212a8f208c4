/-
  One more waits, or why not: the code.
-/
import Derived.Test.YtohkjleppohinaaDoorPl
set_option linter.unusedSimpArgs false
set_option linter.unusedVariables false
set_option maxRecDepth 10000
namespace Go.Proofs.YtohkjleppohinaaDoor
open Go.RowKit Go.Lib
open L3 (Blk Reads block_of_add add_of_add)
open L6 (Turn moreB fresh From In)

/-- A callee that keeps what is held: what it hands back is known. -/
theorem wpQuiet_fn {P : Program} {ops : Array Oper} {S : World → Prop} {o : Oper} {rest : List Oper} {a : Act} {Qa : Act → Prop} (hg : Region.wanted o (yielded ops a.tmps) = true) (f : FuncId) (xs : Array Operand) (ts : Array TypeId)
    (ho : o.op = .call { callee := .value (.func f), args := xs, argTypes := ts }) (hc : ∀ args w, (callFunc f args).run P w = .ok (.enter f args) w) (args : List Value) (ha : xs.toList.map a.eval = args) {v : Value}
    (hv : ∀ x : WorldIn S, Calls P f args.toArray x.w fun e w' => e = .returned v ∧ S w')
    (h : wpQuiet P ops (fun w' => ∃ x : WorldIn S, w' = x.w) Qa rest (a.put o.dst v)) : wpQuiet P ops (fun w' => ∃ x : WorldIn S, w' = x.w) Qa (o :: rest) a := by
  refine wpQuiet_call hg f args.toArray (fun w => ?_) hv h
  have ha' : xs.map a.eval = args.toArray := by apply Array.toList_inj.1; rw [Array.toList_map]; exact ha
  simp [execOp, ho, resolve, invoke, Deferred.ofValue, hc, ← ha', Act.eval]
theorem addE_is {most : Int} {L : List Txx} {t : Txx} (h1 : right t = true) (h2 : hasX L t = false) : addE most L t = if most ≤ (L.length : Int) then 101 else 0 := by unfold addE; rw [h1, h2]; simp
set_option maxHeartbeats 2000000 in
set_option maxRecDepth 100000 in
theorem refuses_any {w : World} {S : Nat → Prop} {g : Nat} {most : Int} {L : List Txx} (h : Pl w S g most L) (t : Txx) (ht : t.wf 1000) (hT : Tabs w) :
    Calls Tryd.prog 23 #[.pointer (some ⟨g, 0, none⟩), .agg (txC t)] w (gives (.int .i64 (addE most L t)) w) := by
  obtain ⟨A, c, hb, hrd, _, hf, _⟩ := h.open_
  have hyb := box_new w 35 t
  have hb0 : Below w.heap.size w (w.alloc (.cells (txC t) 35)) := below_box _ t
  have HCK := Lib.hid (check_any t (w.alloc (.cells (txC t) 35)) (ht.le (by omega)) (hT.kept hb0))
  clear hT h
  rcases Bool.eq_false_or_eq_true (right t) with hr | hr
  case inr =>
    have HE := Lib.hid (show addE most L t = 80 by unfold addE; rw [hr]; rfl)
    have HC2 : Hid (Calls Tryd.prog 34 #[.agg (txC t)] (w.alloc (.cells (txC t) 35)) (gives (.int .i64 80) (w.alloc (.cells (txC t) 35)))) := Lib.hid (by have := HCK.out; rw [hr] at this; exact this)
    clear HCK hr hrd hf hb
    go_enter Tryd.func23, Tryd.ntmps23
    go_wp2_with (first
      | (refine wpList_row_at rfl _ _ rfl w.heap.size rfl _ _ _ _ hyb Tryd.underlying35 rfl (by kernel_rfl) ?_)
      | (go_at_call 34; refine HC2.out.mono ?_; unfold gives; rintro e w1 ⟨rfl, hb1⟩)
      | go_in)
    go_ret
    exact ⟨by rw [HE.out]; rfl, nxt hb0 hb1⟩
  case inl =>
    have HC2 : Hid (Calls Tryd.prog 34 #[.agg (txC t)] (w.alloc (.cells (txC t) 35)) (gives (.int .i64 0) (w.alloc (.cells (txC t) 35)))) := Lib.hid (by have := HCK.out; rw [hr] at this; exact this)
    have HR := Lib.hid hr
    obtain ⟨n, hn⟩ : ∃ n, n = L.length := ⟨_, rfl⟩
    have hn64 : n ≤ 64 := by rw [hn]; exact hf.len
    have HHAS := Lib.hid (fun W (hb : Below w.heap.size w W) => hasL_any A c L t W hf.wf ht (hrd.below hb) (by have := hf.len; omega))
    rw [← hn] at HHAS hb
    have HN := Lib.hid hn
    clear HCK hr hrd hn
    go_enter Tryd.func23, Tryd.ntmps23
    go_upto_region 6 with (first
      | (refine wpList_row_at rfl _ _ rfl w.heap.size rfl _ _ _ _ hyb Tryd.underlying35 rfl (by kernel_rfl) ?_)
      | (go_at_call 34; refine HC2.out.mono ?_; unfold gives; rintro e w1 ⟨rfl, hb1⟩)
      | go_in)
    have hb2 : Below w.heap.size w w1 := nxt hb0 hb1
    have hBx : Blk w1 w.heap.size 35 (txC t) := hyb.below hb1 hyb.lt
    have hPb := hb.below hb2 hb.lt
    clear hyb hb hb1 hb0 HC2
    obtain ⟨b, hbh⟩ : ∃ b, b = hasX L t := ⟨_, rfl⟩
    rw [← hbh] at HHAS
    have HB := Lib.hid hbh
    clear hbh
    refine wp_region_S (Below w1.heap.size w1) (by kernel_rfl) (by kernel_rfl) (Below.refl w1.heap.size w1).drew ?_
    have ne : Nonempty (WorldIn (Below w1.heap.size w1)) := ⟨⟨_, Below.refl w1.heap.size w1⟩⟩
    have p1 : ∀ y : WorldIn (Below w1.heap.size w1), y.w.cell? ⟨g, 1, none⟩ = some (.slice A n c) := fun y => (hPb.below y.h hPb.lt).cell 1
    iterate 4 go_big_quiet_step (fail)
    refine wpQuiet_row rfl _ _ rfl w.heap.size rfl _ _ _ _ (fun y => hBx.below y.h hBx.lt) Tryd.underlying35 rfl (by kernel_rfl) ?_
    conv => arg 6; simp only [Act.put, List.setIfInBounds_toArray, List.set_cons_zero, List.set_cons_succ]
    refine wpQuiet_fn rfl 25 _ _ rfl Tryd.call25 [.slice A n c, .agg (txC t)] rfl (v := .bool b) (fun x => (HHAS.out x.w (nxt hb2 x.h)).mono fun e w' ⟨he, hb⟩ => ⟨he, nxt x.h hb⟩) ?_
    conv => arg 6; simp only [Act.put, List.setIfInBounds_toArray, List.set_cons_zero, List.set_cons_succ]
    go_big_quiet_step (fail)
    refine wpQuiet_nil ?_
    intro x
    obtain ⟨W, hW⟩ := x
    have hBW := nxt hb2 hW
    have hPW : Blk W g 52 #[.int .i64 most, .slice A n c] := hPb.below hW hPb.lt
    have q0 : W.cell? ⟨g, 0, none⟩ = some (.int .i64 most) := hPW.cell 0
    have q1 : W.cell? ⟨g, 1, none⟩ = some (.slice A n c) := hPW.cell 1
    clear hPb hBx hPW p1 ne HHAS hf
    cases b with
    | true =>
      have HE := Lib.hid (show addE most L t = 100 by unfold addE; rw [HR.out, ← HB.out]; rfl)
      go_wp2
      go_ret
      exact ⟨by rw [HE.out]; rfl, hBW⟩
    | false =>
      have HE := Lib.hid (show addE most L t = if most ≤ (n : Int) then 101 else 0 by rw [HN.out]; exact addE_is HR.out HB.out.symm)
      by_cases hm : most ≤ (n : Int)
      · have HE2 := Lib.hid (HE.out.trans (if_pos hm))
        clear HE
        go_upto_region 8 with fail
        go_quiet (fail)
        go_wp2
        go_ret
        exact ⟨by rw [HE2.out]; rfl, L6.below_drewN hBW _⟩
      · have HE2 := Lib.hid (HE.out.trans (if_neg hm))
        clear HE
        go_upto_region 8 with fail
        go_quiet (fail)
        go_wp2
        go_ret
        exact ⟨by rw [HE2.out]; rfl, L6.below_drewN hBW _⟩
end Go.Proofs.YtohkjleppohinaaDoor
