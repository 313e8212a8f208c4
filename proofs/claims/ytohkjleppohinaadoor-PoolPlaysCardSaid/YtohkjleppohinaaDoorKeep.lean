/-
  Only those that stay wait on: the code, by closures.
-/
import Derived.Test.YtohkjleppohinaaDoorPl
set_option linter.unusedSimpArgs false
set_option linter.unusedVariables false
set_option maxRecDepth 10000
namespace Go.Proofs.YtohkjleppohinaaDoor
open Go.RowKit Go.Lib
open L3 (Blk Reads block_of_add add_of_add)
open L6 (Turn moreB fresh From In)

theorem enters_keep : ∀ args w, (callFunc 40 args).run Tryd.prog w = .ok (.enter 40 args) w := enters_of Tryd.func40 (by kernel_rfl) rfl
theorem enters_drop : ∀ args w, (callFunc 29 args).run Tryd.prog w = .ok (.enter 29 args) w := enters_of Tryd.func29 (by kernel_rfl) rfl
theorem enters_past : ∀ args w, (callFunc 30 args).run Tryd.prog w = .ok (.enter 30 args) w := enters_of Tryd.func30 (by kernel_rfl) rfl
set_option maxHeartbeats 1000000 in
set_option maxRecDepth 100000 in
/-- The closure that turns what stays into what goes. -/
theorem keepf_any (B : Nat) (f : Nat) (lb : Array Value) (eg : ∀ args w, (callFunc f args).run Tryd.prog w = .ok (.enter f args) w) (b : Bool) (x : Txx) (W : World) (hB : W.cell? ⟨B, 0, none⟩ = some (.func (.func f) #[] lb))
    (hc : ∀ W', Below W.heap.size W W' → Calls Tryd.prog f (#[.agg (txC x)] ++ lb) W' (gives (.bool b) W')) :
    Calls Tryd.prog 40 #[.agg (txC x), .pointer (some ⟨B, 0, none⟩)] W (gives (.bool (!b)) W) := by
  have hb0 : Below W.heap.size W (W.alloc (.cells (txC x) 35)) := below_box _ x
  have hyb := box_new W 35 x
  have hB1 : (W.alloc (.cells (txC x) 35)).cell? ⟨B, 0, none⟩ = some (.func (.func f) #[] lb) := (hb0.cell (p := ⟨B, 0, none⟩) (L2.cell_in hB)).trans hB
  have HC := Lib.hid (hc _ hb0)
  clear hc hB
  go_enter Tryd.func40, Tryd.ntmps40
  go_wp2_with (first
    | (refine wpList_row_at rfl _ _ rfl W.heap.size rfl _ _ _ _ hyb Tryd.underlying35 rfl (by kernel_rfl) ?_)
    | (go_at_fn f; refine HC.out.mono ?_; unfold gives; rintro e w1 ⟨rfl, hb1⟩)
    | go_in)
  go_ret
  exact ⟨rfl, nxt hb0 hb1⟩
theorem filter_nn (L : List Txx) (p : Txx → Bool) : (L.filter fun t => !(fun t => !p t) t) = L.filter p := by congr 1; funext t; simp
set_option maxHeartbeats 2000000 in
set_option maxRecDepth 100000 in
theorem keep_any {w : World} {S : Nat → Prop} {g : Nat} {most : Int} {L : List Txx} (h : Pl w S g most L) (f : Nat) (lb : Array Value) (eg : ∀ args w, (callFunc f args).run Tryd.prog w = .ok (.enter f args) w) (p : Txx → Bool) (hp : Asks f lb p S w) :
    Calls Tryd.prog 28 #[.pointer (some ⟨g, 0, none⟩), .func (.func f) #[] lb] w fun e w' => e = .returned (.int .i64 ((L.length : Int) - ((L.filter p).length : Int))) ∧ Pl w' (moreB S w w') g most (L.filter p) ∧ Turn S w w' := by
  obtain ⟨A, c, hb, hrd, hrow, hf, hg, hv⟩ := h.open_
  obtain ⟨w1, hw1⟩ : ∃ w1, w1 = w.alloc (.cells #[.func (.func f) #[] lb] 53) := ⟨_, rfl⟩
  have hb1 : Below w.heap.size w w1 := by rw [hw1]; exact (Below.refl _ _).alloc (Nat.le_refl _) _
  have hB1 : Blk w1 w.heap.size 53 #[.func (.func f) #[] lb] := by rw [hw1]; exact Blk.new _ _ _
  have hr1 : w1.ownsRow 0 35 7 (.slice A L.length c) L.length (L.flatMap txL) := (show Turn (fun _ => False) w w1 from L6.Turn.of_keep hb1).row hrow (fun k _ h => h)
  have hP1 := hb.below hb1 hb.lt
  have hvw : (Value.slice A L.length c).ownBlock ≠ some w.heap.size := fun e => by have := (hrow.lt _ e).2; omega
  have hvg := row_ne hr1 hP1 (by decide)
  have hask : Asks 40 #[.pointer (some ⟨w.heap.size, 0, none⟩)] (fun t => !p t) (fun k => (Value.slice A L.length c).ownBlock = some k) w1 := fun W x hx hW => by
    have hBW := hW.blk hB1 (fun e => hvw e)
    have hTW : Turn S w W := (L6.Turn.of_keep hb1).trans hW (fun i e => .inl (hv i e))
    exact keepf_any w.heap.size f lb eg (p x) x W (hBW.cell 0) (fun W' hb' => hp W' x hx (hTW.kept hb'))
  have hdel := delete_any 0 _ L w1 40 #[.pointer (some ⟨w.heap.size, 0, none⟩)] enters_keep _ hf.wf (by have := hf.len; omega) hr1 hask
  rw [filter_nn] at hdel
  obtain ⟨m, hm⟩ : ∃ m, m = (L.filter p).length := ⟨_, rfl⟩
  have hml : m ≤ L.length := by rw [hm]; exact List.length_filter_le _ _
  obtain ⟨n, hn⟩ : ∃ n, n = L.length := ⟨_, rfl⟩
  have hn64 : n ≤ 64 := by rw [hn]; exact hf.len
  rw [← hn] at hml hdel hP1 hv hvg ⊢
  rw [← hm] at hdel ⊢
  have HD := Lib.hid hdel
  have HM := Lib.hid hm
  have HV := Lib.hid hv
  have HF := Lib.hid (hf.filter p)
  have hgw := hb.lt
  clear hdel hm hv hf hn hb hrd hrow hr1 hvw hask hp h hB1
  go_enter Tryd.func28, Tryd.ntmps28
  go_upto_region 1 with fail
  rw [← hw1]
  clear hw1
  have q1 : w1.cell? ⟨g, 1, none⟩ = some (.slice A n c) := hP1.cell 1
  go_wp2_with (first
    | (go_at_call 39; refine HD.out.mono ?_; rintro e w2 ⟨v2, rfl, hr2, ho2, ht2⟩
       obtain ⟨A2, c2, rfl, hc2, _⟩ := L6.row_reads hr2
       have hP2 := ht2.blk hP1 hvg
       have q2 := hP2.cell 1
       have f2 := hP2.frozen 1)
    | go_in)
  go_ret
  have hs := hb1.size
  have hT2 : Turn S w w2 := (L6.Turn.of_keep hb1).trans ht2 (fun i e => .inl (HV.out i e))
  have hR3 := ((L6.Turn.refl (fun k => k = g) w2).setCell (p := ⟨g, 1, none⟩) (.inl rfl) (.slice A2 m c2)).row hr2 (fun k hk e => row_ne hr2 hP2 (by decide) (by rw [hk, e]))
  refine ⟨by go_num, ⟨.slice A2 m c2, hP2.set_ 1 _, ?_, HF.out, .inl hg, fun k hk => .inl (HV.out k (ho2 k hk))⟩, hT2.setCell (.inl hg) _⟩
  rw [← HM.out]
  exact hR3
end Go.Proofs.YtohkjleppohinaaDoor
