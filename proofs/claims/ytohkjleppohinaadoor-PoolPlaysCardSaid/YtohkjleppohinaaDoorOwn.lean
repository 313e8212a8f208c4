/-
  A transaction with texts of its own; is it one of some; of one turn?
-/
import Derived.Test.YtohkjleppohinaaDoorRd
import Derived.Test.YtohkjleppohinaaDoorLays
import Derived.Deep.RegionHeld3
import Derived.Deep.QuietTactic
import Derived.Deep.DeepCutAuto
import Derived.BigQuiet
set_option linter.unusedSimpArgs false
set_option linter.unusedVariables false
set_option maxRecDepth 10000
namespace Go.Proofs.YtohkjleppohinaaDoor
open Go.RowKit Go.Lib
open L3 (Blk Reads block_of_add add_of_add)
open L6 (Turn moreB fresh From In)

/-- What holds of the world while texts are copied. -/
def OwnAt (w : World) (t : Txx) (W : World) : Prop :=
  L3.Blk W w.heap.size 35 (txC t) ∧ L3.Blk W (w.heap.size + 1) 35 (txC zeroX) ∧ Below w.heap.size w W
theorem OwnAt.below {w W W' : World} {t : Txx} (h : OwnAt w t W) (hb : Below W.heap.size W W') : OwnAt w t W' := ⟨h.1.below hb h.1.lt, h.2.1.below hb h.2.1.lt, nxt h.2.2 hb⟩
theorem OwnAt.set_ {w W : World} {t : Txx} (h : OwnAt w t W) (i : Nat) (u : Value) (he : (txC t).setIfInBounds i u = txC t) : OwnAt w t (W.setCell ⟨w.heap.size, i, none⟩ u) := by
  refine ⟨?_, h.2.1.far (by simp) u, h.2.2.setCell (p := ⟨w.heap.size, i, none⟩) (Nat.le_refl _) u⟩
  have := h.1.set_ i u
  rw [he] at this
  exact this
theorem OwnAt.drew {w W : World} {t : Txx} (h : OwnAt w t W) : OwnAt w t W.drew := ⟨h.1.drew, h.2.1.drew, h.2.2.drew⟩
/-- Two cells of a transaction's block. -/
theorem OwnAt.two {w W : World} {t : Txx} (h : OwnAt w t W) : W.cell? ⟨w.heap.size, 1, none⟩ = some (.string (str t.frm)) ∧ W.cell? ⟨w.heap.size, 2, none⟩ = some (.string (str t.to)) := ⟨h.1.cell 1, h.1.cell 2⟩
theorem OwnAt.more {w W : World} {t : Txx} (h : OwnAt w t W) : W.cell? ⟨w.heap.size, 3, none⟩ = some (.string (str t.key)) ∧ W.cell? ⟨w.heap.size, 4, none⟩ = some (.string (str t.val)) := ⟨h.1.cell 3, h.1.cell 4⟩
set_option maxHeartbeats 4000000 in
set_option maxRecDepth 100000 in
theorem own_any (t : Txx) (w : World) (h : t.wf 1000000) : Calls Tryd.prog 24 #[.agg (txC t)] w (gives (.agg (txC t)) w) := by
  obtain ⟨_, h1, h2, h3, h4, _, _⟩ := h
  have hc1 := fun W => c_clone t.frm W h1
  have hc2 := fun W => c_clone t.to W h2
  have hc3 := fun W => c_clone t.key W h3
  have hc4 := fun W => c_clone t.val W h4
  have HH := Lib.hid (And.intro hc1 (And.intro hc2 (And.intro hc3 hc4)))
  clear hc1 hc2 hc3 hc4 h1 h2 h3 h4
  go_enter Tryd.func24, Tryd.ntmps24
  go_upto_region 1 with fail
  refine name_world (fun w1 hw1 => ?_)
  have hA : OwnAt w t w1 := by
    rw [hw1]
    have e1 : (w.alloc (.cells (txC t) 35)).heap.size = w.heap.size + 1 := by simp
    have hb1 : Below w.heap.size w (w.alloc (.cells (txC t) 35)) := below_box _ t
    refine ⟨(box_new w _ t).alloc _, ?_, hb1.alloc hb1.size _⟩
    have := box_new (w.alloc (.cells (txC t) 35)) 35 zeroX
    rw [e1] at this
    exact this
  clear hw1
  have c1 : w1.cell? ⟨w.heap.size, 1, none⟩ = some (.string (str t.frm)) := hA.1.cell 1
  have c2 : w1.cell? ⟨w.heap.size, 2, none⟩ = some (.string (str t.to)) := hA.1.cell 2
  have hAd := hA.drew
  go_region_held3 (fun wx => wx.cell? ⟨w.heap.size, 1, none⟩ = some (.string (str t.frm)) ∧ wx.cell? ⟨w.heap.size, 2, none⟩ = some (.string (str t.to)))
    (first | exact ⟨by assumption, by assumption⟩ | exact OwnAt.two (by assumption) | exact OwnAt.two (OwnAt.set_ (by assumption) 1 _ rfl) | exact OwnAt.two (OwnAt.set_ (OwnAt.set_ (by assumption) 1 _ rfl) 2 _ rfl))
    (first
      | (go_at_call 35; (with_reducible refine (HH.out.1 _).mono ?_); unfold gives; rintro e w2 ⟨rfl, hb2⟩; have hA2 := hAd.below hb2; have f1 := hA2.1.frozen 1; have f2 := hA2.1.frozen 2; have b1 := hA2.two.1; have b2 := hA2.two.2)
      | (go_at_call 35; (with_reducible refine (HH.out.2.1 _).mono ?_); unfold gives; rintro e w3 ⟨rfl, hb3⟩; have hA3 := hA2.below hb3; have g1 := hA3.1.frozen 1; have g2 := hA3.1.frozen 2; have d1 := hA3.two.1; have d2 := hA3.two.2))
  have hB : OwnAt w t ((w3.setCell ⟨w.heap.size, 1, none⟩ (.string (str t.frm))).setCell ⟨w.heap.size, 2, none⟩ (.string (str t.to))) := (hA3.set_ 1 _ rfl).set_ 2 _ rfl
  clear hA hAd c1 c2 hA2 hA3 f1 f2 b1 b2 g1 g2 d1 d2 hb2 hb3
  go_upto_region 2 with fail
  refine name_world (fun w4 hw4 => ?_)
  rw [← hw4] at hB
  clear hw4
  have c3 : w4.cell? ⟨w.heap.size, 3, none⟩ = some (.string (str t.key)) := hB.1.cell 3
  have c4 : w4.cell? ⟨w.heap.size, 4, none⟩ = some (.string (str t.val)) := hB.1.cell 4
  have hBd := hB.drew
  go_region_held3 (fun wx => wx.cell? ⟨w.heap.size, 3, none⟩ = some (.string (str t.key)) ∧ wx.cell? ⟨w.heap.size, 4, none⟩ = some (.string (str t.val)))
    (first | exact ⟨by assumption, by assumption⟩ | exact OwnAt.more (by assumption) | exact OwnAt.more (OwnAt.set_ (by assumption) 3 _ rfl) | exact OwnAt.more (OwnAt.set_ (OwnAt.set_ (by assumption) 3 _ rfl) 4 _ rfl))
    (first
      | (go_at_call 35; (with_reducible refine (HH.out.2.2.1 _).mono ?_); unfold gives; rintro e w5 ⟨rfl, hb5⟩; have hA5 := hBd.below hb5; have f3 := hA5.1.frozen 3; have f4 := hA5.1.frozen 4; have b3 := hA5.more.1; have b4 := hA5.more.2)
      | (go_at_call 35; (with_reducible refine (HH.out.2.2.2 _).mono ?_); unfold gives; rintro e w6 ⟨rfl, hb6⟩; have hA6 := hA5.below hb6; have g3 := hA6.1.frozen 3; have g4 := hA6.1.frozen 4; have d3 := hA6.more.1; have d4 := hA6.more.2))
  have hF := (hA6.set_ 3 (.string (str t.key)) rfl).set_ 4 (.string (str t.val)) rfl
  clear hB hBd c3 c4 hA5 hA6 f3 f4 b3 b4 g3 g4 d3 d4 hb5 hb6
  go_wp2_with (first
    | (refine wpList_row_at rfl _ _ rfl w.heap.size rfl _ _ _ _ hF.1 Tryd.underlying35 rfl (by kernel_rfl) ?_)
    | (refine wpList_store_row rfl _ _ _ rfl (w.heap.size + 1) (txC t) rfl rfl _ _ hF.2.1 (by kernel_rfl) rfl (txC_ones _) ?_))
  (try simp only [Exit.inBlock, Exit.then])
  refine bodyPost_ret (v := .agg (txC t)) (results_row rfl _ _ (w.heap.size + 1) rfl _ _ _ _ (blk_setRow hF.2.1) Tryd.underlying35 rfl (by kernel_rfl)) rfl ?_
  exact ⟨rfl, below_setRow hF.2.2 (Nat.le_succ _)⟩


/-! Transactions of at most 1,000 bytes a text -/
abbrev Fit : Type := {t : Txx // t.wf 1000}
instance : Inhabited Fit := ⟨⟨zeroX, zeroX_wf 1000⟩⟩
def fitL (x : Fit) : List Value := txL x.1
theorem eq_fit : EqlAt Tryd.prog 35 (fun x : Fit => .agg (fitL x).toArray) (fun x y => decide (x.1 = y.1)) :=
  ⟨fun x y w => eqlX x.2 y.2 (by unfold maxLen; omega) w, GuardAt.agg _ (by kernel_rfl)⟩
/-- A list of transactions, as such. -/
def fitX : (L : List Txx) → (∀ t ∈ L, t.wf 1000) → List Fit
  | [], _ => []
  | t :: L, h => ⟨t, h t (List.mem_cons_self ..)⟩ :: fitX L fun x hx => h x (List.mem_cons_of_mem _ hx)
theorem fitX_map : ∀ (L : List Txx) (h : ∀ t ∈ L, t.wf 1000), (fitX L h).map (·.1) = L
  | [], _ => rfl
  | t :: L, h => by unfold fitX; rw [List.map_cons, fitX_map L]
theorem fitX_len (L : List Txx) (h : ∀ t ∈ L, t.wf 1000) : (fitX L h).length = L.length := by rw [← List.length_map (f := fun x : Fit => x.1), fitX_map]
theorem fitX_get (L : List Txx) (h : ∀ t ∈ L, t.wf 1000) (j : Nat) (hj : j < L.length) : ((fitX L h)[j]!).1 = L[j] := by
  have hl : j < (fitX L h).length := by rw [fitX_len]; exact hj
  rw [getElem!_pos _ j hl]
  have := fitX_map L h
  have e : ((fitX L h).map (·.1))[j]'(by rw [List.length_map]; exact hl) = L[j] := by simp only [this]
  rw [← e, List.getElem_map]
theorem fitX_any (L : List Txx) (h : ∀ t ∈ L, t.wf 1000) (p : Txx → Bool) : ((fitX L h).any fun x => p x.1) = L.any p := by
  have e : (fitX L h).any (p ∘ fun x : Fit => x.1) = L.any p := by rw [← List.any_map, fitX_map]
  exact e
/-- The cells of a list that is read, as the library's contracts ask them. -/
theorem Rd.lib {w : World} {b o : Nat} {L : List Txx} (h : ∀ t ∈ L, t.wf 1000) (hr : Rd txL 7 w (some ⟨b, o, none⟩) L) : ∀ j, j < (fitX L h).length → ∀ i v, (fitL (fitX L h)[j]!)[i]? = some v → w.cell? ⟨b, o + j * 7 + i, none⟩ = some v := fun j hj i v hi => by
  rw [fitX_len] at hj
  obtain ⟨ad, hA, hb, hc⟩ := hr j hj
  injection hA with hA
  subst hA
  unfold fitL at hi
  rw [fitX_get L h j hj] at hi
  have := hc i v hi
  rw [Addr.add_lit, Addr.add_lit] at this
  exact this
end Go.Proofs.YtohkjleppohinaaDoor
