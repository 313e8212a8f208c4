import Derived.Test.YtomaaidhmccngaaGreatDoorReadT
set_option linter.unusedSimpArgs false
set_option linter.unusedVariables false
set_option maxRecDepth 100000
set_option maxHeartbeats 16000000
namespace Go.Proofs.YtomaaidhmccngaaGreatDoor
open Go.RowKit Go.Lib
open L3 (Rdr leaves numS textS textV failS)
theorem qgs (p : List UInt8 × Int) (h : p.2 ≠ 0 -> p.1 = []) (h0 : p.1.length = 0) : L3.doneV p = p.2 := by
 unfold L3.doneV
 by_cases he : p.2 = 0
 ·rw [if_neg (by simpa using he), if_neg (by omega), he]
 ·rw [if_pos he]
theorem qc4 (g : Nat) (p : List UInt8 × Int) (w : World) (h : Rdr w g p) : Calls Tryz.prog 206 #[.pointer (some ⟨g, 0, none⟩)] w fun e w' => e = .returned (.bool (decide (p.2 ≠ 0))) /\ w = w' := by
 have hR := L3.qft g p w h
 have hD := L3.qdS g p w h
 have he : p.2 ≠ 0 -> p.1 = [] := by obtain ⟨_, _, _, _, _, _, he⟩ := h; exact he
 by_cases h0 : p.1.length = 0
 ·rw [qgs p he h0] at hD
  obtain ⟨e, hp⟩ := nm (p.2)
  obtain ⟨n, hn⟩ := nm (p.1.length)
  rw [<- hn] at hR h0
  rw [<- hp] at hD ⊢
  subst h0
  clear hp hn he h
  by_cases e0 : e = 0
  ·subst e0
   go_enter Tryz.func206, Tryz.ntmps206
   go_wp2_with (first
    | (go_at_call 189; refine hR.mono ?_; rintro e w1 ⟨rfl, rfl⟩)
    | (go_at_call 134; refine hD.mono ?_; rintro e w1 ⟨rfl, rfl⟩))
   go_ret
   exact ⟨rfl, rfl⟩
  ·have e1 : (e == 0) = false := by simpa using e0
   have e2 : (e != 0) = true := by simpa using e0
   have e3 : decide (e ≠ 0) = true := by simpa using e0
   rw [e3]
   clear e0 e3
   go_enter Tryz.func206, Tryz.ntmps206
   go_wp2_with (first
    | (go_at_call 189; refine hR.mono ?_; rintro e w1 ⟨rfl, rfl⟩)
    | (go_at_call 134; refine hD.mono ?_; rintro e w1 ⟨rfl, rfl⟩))
   go_ret
   exact ⟨rfl, rfl⟩
 ·have e0 : p.2 = 0 := by
   rcases Classical.em (p.2 = 0) with h1 | h1
   ·exact h1
   ·exact absurd (by rw [he h1]; rfl) h0
  rw [e0]
  obtain ⟨n, hn⟩ := nm (p.1.length)
  rw [<- hn] at hR h0
  have h1 : ((n : Int) == 0) = false := by simp; omega
  clear hn hD he h h0 e0
  go_enter Tryz.func206, Tryz.ntmps206
  go_wp2_with (first
   | (go_at_call 189; refine hR.mono ?_; rintro e w1 ⟨rfl, rfl⟩))
  go_ret
  exact ⟨rfl, rfl⟩
def qa7 (w : World) (g G : Nat) (t : Txx) (q : List UInt8 × Int) (W : World) : Prop :=
 Rdr W g q /\ L3.Blk W w.heap.size 133 (txC zeroX) /\ L3.Blk W G 133 (txC t) /\ w.grownBy W (some g) /\ g < w.heap.size /\ w.heap.size < G
section
variable {w W W' : World} {g G : Nat} {t : Txx} {q q' : List UInt8 × Int}
theorem qa7.rdr (h : qa7 w g G t q W) : Rdr W g q := h.1
theorem qa7.blkR (h : qa7 w g G t q W) : L3.Blk W w.heap.size 133 (txC zeroX) := h.2.1
theorem qa7.blkG (h : qa7 w g G t q W) : L3.Blk W G 133 (txC t) := h.2.2.1
theorem qa7.grown (h : qa7 w g G t q W) : w.grownBy W (some g) := h.2.2.2.1
theorem qa7.lt (h : qa7 w g G t q W) : g < w.heap.size := h.2.2.2.2.1
theorem qa7.next (h : qa7 w g G t q W) (hl : leaves g q' W W') : qa7 w g G t q' W' := by
 have hg := h.2.2.2.2
 exact ⟨hl.1, h.2.1.grown hl.2 (fun e => by injection e with e; omega), h.2.2.1.grown hl.2 (fun e => by injection e with e; omega), L3.qa3 h.2.2.2.1 hl.2, hg⟩
theorem qa7.below (h : qa7 w g G t q W) (hb : Below W.heap.size W W') : qa7 w g G t q W' := by
 have hgr := h.2.2.2.1
 exact ⟨qbS h.1 hb h.1.lt, h.2.1.below hb h.2.1.lt, h.2.2.1.below hb h.2.2.1.lt, ⟨hb.os.trans hgr.os, hb.tape.trans hgr.tape, hb.output.trans hgr.output, Nat.le_trans hgr.size hb.size, fun k hk hne => (hb.block k (Nat.lt_of_lt_of_le hk hgr.size)).trans (hgr.block k hk hne)⟩, h.2.2.2.2⟩
theorem qa7.mk {w2 : World} (h : Rdr w g q') (hl : leaves g q (w.alloc (.cells (txC zeroX) 133)) w2) (t : Txx) : qa7 w g w2.heap.size t q (w2.alloc (.cells (txC t) 133)) := by
 have hg := h.lt
 have hs := hl.2.size
 simp only [World.alloc, Array.size_push] at hs
 refine ⟨qaT hl.1 _, ((qa6 w _ zeroX).grown hl.2 (fun e => by injection e with e; omega)).alloc _, qa6 _ _ _, L3.qa3 (L3.qa3 (World.grownBy_alloc w _ _) hl.2) (World.grownBy_alloc _ _ _), hg, by omega⟩
end
theorem qkK {w0 w W : World} {g : Nat} (hT : Tabs w0) (hb : Below w0.heap.size w0 w) (hg : w0.heap.size <= g) (h : w.grownBy W (some g)) : Tabs W :=
 hT.kept (hb.grown h hb.size (fun k hk => by cases hk; exact hg))
theorem qgO (g : Nat) (p : List UInt8 × Int) (w : World) (h : Rdr w g p) (hT : ∀ W, w.grownBy W (some g) -> Tabs W) :
 Calls Tryz.prog 188 #[.pointer (some ⟨g, 0, none⟩)] w fun e w' => e = .returned (.agg (txC (takeT p).1)) /\ leaves g (takeT p).2 w w' := by
 have hrd := fun W h => qgB g p W h
 have hwf := qj0 p
 have h1 : Rdr (w.alloc (.cells (txC zeroX) 133)) g p := qaT h _
 have hr1 := hrd _ h1
 obtain ⟨r, hX⟩ := nm (takeT p)
 rw [<- hX]
 rw [qhY] at hX
 obtain ⟨t, ht⟩ := nm ((readT p).1)
 obtain ⟨q, hq⟩ := nm ((readT p).2)
 rw [<- ht, <- hq] at hX hr1
 rw [<- ht] at hwf
 have HM := hid (fun w2 (hl : leaves g q (w.alloc (.cells (txC zeroX) 133)) w2) => qa7.mk h hl t)
 have HC := hid (And.intro hr1 (And.intro hT (fun W hW => qaD t W hwf hW)))
 clear hrd h1 hr1 hT ht hq hwf h
 unfold endT at hX
 go_enter Tryz.func188, Tryz.ntmps188
 have HXX := hid hX
 clear hX
 go_upto_region 2 with (first
  | (go_at_call 205; refine HC.out.1.mono ?_; rintro e w2 ⟨rfl, hl2⟩; have hA := HM.out _ hl2)
  | (refine qaf rfl _ _ _ rfl _ (txC t) rfl rfl _ _ (by kernel_rfl) rfl (qbF _) ?_))
 obtain ⟨G, hG⟩ := nm (w2.heap.size)
 rw [<- hG] at hA
 rw [<- hG]
 clear hG hl2 HM
 refine qab (fun w3 hw3 => ?_)
 rw [<- hw3] at hA
 clear hw3
 have hX := HXX.out
 clear HXX
 by_cases hq : q.2 = 0
 case neg =>
  rw [if_pos (.inl hq)] at hX
  have HX := hid hX
  have hf := qc4 g q w3 hA.rdr
  rw [decide_eq_true (show q.2 ≠ 0 from hq)] at hf
  clear hX hq
  go_wp2_with (first
   | (go_at_call 206; refine hf.mono ?_; rintro e w4 ⟨rfl, rfl⟩)
   | (go_at_call 163; refine (L3.qcs g q 80 _ hA.rdr).mono ?_; rintro e w6 ⟨rfl, hl6⟩; have hD := hA.next hl6)
   | (refine wpList_build rfl _ _ rfl #[] rfl (qax _) ?_)
   | (refine wpList_store_row rfl _ _ _ rfl w.heap.size (txC zeroX) rfl rfl _ _ hD.blkR (by kernel_rfl) rfl (qbF _) ?_))
  (try simp only [Exit.inBlock, Exit.then])
  refine bodyPost_ret (v := .agg (txC zeroX)) (qan rfl _ _ w.heap.size rfl _ _ _ _ (qac hD.blkR) Tryz.underlying133 rfl (by kernel_rfl)) rfl ?_
  exact ⟨by rw [HX.out], by rw [HX.out]; exact ⟨qbn hD.rdr hD.lt _, qaJ hD.grown (Nat.le_refl _) _⟩⟩
 case pos =>
 have hf := qc4 g q w3 hA.rdr
 rw [decide_eq_false (show ¬ q.2 ≠ 0 from fun h => h hq)] at hf
 have hck := HC.out.2.2 w3 (HC.out.2.1 w3 hA.grown)
 rcases (Bool.eq_false_or_eq_true (right t)).symm with hr | hr
 ·rw [if_pos (.inr hr)] at hX
  rw [hr] at hck
  have HX := hid hX
  have HK := hid hck
  clear hX hq hck hr
  go_wp2_with (first
   | (go_at_call 206; refine hf.mono ?_; rintro e w4 ⟨rfl, rfl⟩)
   | (refine qaa rfl _ _ rfl (G) rfl _ _ _ _ hA.blkG Tryz.underlying133 rfl (by kernel_rfl) ?_)
   | (go_at_call 176; refine HK.out.mono ?_; unfold gives errI; rintro e w5 ⟨rfl, hb5⟩; have hB := hA.below hb5)
   | (go_at_call 163; refine (L3.qcs g q 80 _ hB.rdr).mono ?_; rintro e w6 ⟨rfl, hl6⟩; have hD := hB.next hl6)
   | (refine wpList_build rfl _ _ rfl #[] rfl (qax _) ?_)
   | (refine wpList_store_row rfl _ _ _ rfl w.heap.size (txC zeroX) rfl rfl _ _ hD.blkR (by kernel_rfl) rfl (qbF _) ?_))
  (try simp only [Exit.inBlock, Exit.then])
  refine bodyPost_ret (v := .agg (txC zeroX)) (qan rfl _ _ w.heap.size rfl _ _ _ _ (qac hD.blkR) Tryz.underlying133 rfl (by kernel_rfl)) rfl ?_
  exact ⟨by rw [HX.out], by rw [HX.out]; exact ⟨qbn hD.rdr hD.lt _, qaJ hD.grown (Nat.le_refl _) _⟩⟩
 ·rw [if_neg (fun h => h.elim (fun h => h hq) (fun h => by rw [hr] at h; cases h))] at hX
  rw [hr] at hck
  have HX := hid hX
  have HK := hid hck
  clear hX hq hck hr
  go_wp2_with (first
   | (go_at_call 206; refine hf.mono ?_; rintro e w4 ⟨rfl, rfl⟩)
   | (go_at_call 176; refine HK.out.mono ?_; unfold gives errI; rintro e w5 ⟨rfl, hb5⟩; have hB := hA.below hb5)
   | (refine qaa rfl _ _ rfl (G) rfl _ _ _ _ hB.blkG Tryz.underlying133 rfl (by kernel_rfl) ?_)
   | (refine qaa rfl _ _ rfl (G) rfl _ _ _ _ hA.blkG Tryz.underlying133 rfl (by kernel_rfl) ?_)
   | (refine wpList_store_row rfl _ _ _ rfl w.heap.size (txC t) rfl rfl _ _ hB.blkR (by kernel_rfl) rfl (qbF _) ?_))
  (try simp only [Exit.inBlock, Exit.then])
  refine bodyPost_ret (v := .agg (txC t)) (qan rfl _ _ w.heap.size rfl _ _ _ _ (qac hB.blkR) Tryz.underlying133 rfl (by kernel_rfl)) rfl ?_
  exact ⟨by rw [HX.out], by rw [HX.out]; exact ⟨qbn hB.rdr hB.lt _, qaJ hB.grown (Nat.le_refl _) _⟩⟩
