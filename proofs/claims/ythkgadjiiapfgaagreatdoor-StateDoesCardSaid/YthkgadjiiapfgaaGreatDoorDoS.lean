/-
  Why a transaction isn't done, and what it does.
-/
import Derived.Test.YthkgadjiiapfgaaGreatDoorNewS
set_option linter.unusedSimpArgs false
set_option linter.unusedVariables false
set_option maxRecDepth 10000
namespace Go.Proofs.YthkgadjiiapfgaaGreatDoor
open Go.RowKit Go.Maps Go.Lib
open L3 (Blk)
open L6 (Turn moreB fresh From In)
open L2 (chk vlu)

/-- Why it isn't done. -/
def refE (f : FA) (t : Txx) : Int := if right t = false then 80 else if t.nonce ≠ nnc f t.frm + 1 then 90 else if amt f t.frm < t.amount then 91 else 0
/-- What may be. -/
def saneF (f : FA) : Prop := ∀ k, 0 ≤ amt f k ∧ amt f k ≤ 4611686018427387904 ∧ 0 ≤ nnc f k ∧ nnc f k ≤ 4611686018427387904
theorem refE_80 {f : FA} {t : Txx} (h : right t = false) : refE f t = 80 := by unfold refE; rw [if_pos h]
theorem refE_90 {f : FA} {t : Txx} (h : right t = true) (h1 : t.nonce ≠ nnc f t.frm + 1) : refE f t = 90 := by unfold refE; rw [if_neg (by rw [h]; decide), if_pos h1]
theorem refE_91 {f : FA} {t : Txx} (h : right t = true) (h1 : t.nonce = nnc f t.frm + 1) (h2 : amt f t.frm < t.amount) : refE f t = 91 := by unfold refE; rw [if_neg (by rw [h]; decide), if_neg (by omega), if_pos h2]
theorem refE_0 {f : FA} {t : Txx} (h : right t = true) (h1 : t.nonce = nnc f t.frm + 1) (h2 : ¬ amt f t.frm < t.amount) : refE f t = 0 := by unfold refE; rw [if_neg (by rw [h]; decide), if_neg (by omega), if_neg h2]
/-- What the reads meet. -/
def holdR (g ba m : Nat) (l : List UInt8) (D : DataW Unit) (n : Nat) (W : World) : Prop := W.cell? ⟨g, 0, none⟩ = some (.map (some ba)) ∧ W.cell? ⟨m, 1, none⟩ = some (.string (str l)) ∧ W.ownsMap Tryz.prog 9 accElem ba n D
theorem holdR.below {g ba m n : Nat} {l : List UInt8} {D : DataW Unit} {W W' : World} (h : holdR g ba m l D n W) (hb : Below W.heap.size W W') : holdR g ba m l D n W' :=
  ⟨(hb.cell (p := ⟨g, 0, none⟩) (L2.cell_in h.1)).trans h.1, (hb.cell (p := ⟨m, 1, none⟩) (L2.cell_in h.2.1)).trans h.2.1, L6.Turn.map (S := fun _ => False) (L6.Turn.of_keep hb) h.2.2 (fun h => h)⟩
theorem exec_look {n : Nat} {ev : Operand → Value} {o : Oper} {W : World} (m x : Operand) (hop : o.op = Op.lookup 49 m x false) (b : Nat) (D : DataW Unit) (hm : ev m = .map (some b)) (hown : W.ownsMap Tryz.prog 9 accElem b n D)
    (l : List UInt8) (hx : ev x = .string (str l)) (hl : l.length ≤ maxLen) (i j : Int) (hat : D.atKey (.string l) (accD (0, 0)) = accD (i, j)) :
    (execOp ev o).run Tryz.prog W = .ok (.value (.agg #[.int .i64 i, .int .i64 j])) W := by
  obtain ⟨v, ps, hrun, hv⟩ := hown.lookup kdN Tryz.underlying49 (zeroAcc W) (show accElem (.agg #[.int .i64 0, .int .i64 0]) = some (accD (0, 0), []) from rfl) (keyN hl)
  obtain rfl := acc_is hv hat
  simp [execOp, hop, hm, hx, hrun, Result.andThen]
section
variable {S : Nat → Prop} {g n : Nat} {f : FA} {v : FV} {w : World}
theorem refuses_nil (t : Txx) (w : World) : Calls Tryz.prog 26 #[.pointer none, .agg (txC t)] w (gives (.int .i64 3) w) := by
  go_enter Tryz.func26, Tryz.ntmps26
  go_wp2
  go_ret
  exact ⟨rfl, below_box _ t⟩
set_option maxHeartbeats 2000000 in
set_option maxRecDepth 100000 in
theorem refuses_any (h : St w S g f v n) (t : Txx) (hwf : t.wf 1000000) (hT : Tabs w) (hs : saneF f) :
    Calls Tryz.prog 26 #[.pointer (some ⟨g, 0, none⟩), .agg (txC t)] w (gives (.int .i64 (refE f t)) w) := by
  have hb0 : Below w.heap.size w (w.alloc (.cells (txC t) 40)) := below_box _ t
  have hT0 := hT.kept hb0
  have hck := check_any t (w.alloc (.cells (txC t) 40)) hwf hT0
  have B0 := Lib.hid (fun w1 => @box_at w w1 40 t)
  have hsn := hs t.frm
  have k0 := box_new w 40 t
  obtain ⟨ba, bv, DA, DV, hblk, hA, hV, h1, h2, h3, h4, h5, h6⟩ := h
  have hlm : t.frm.length ≤ maxLen := by have := hwf.2.1; unfold maxLen; omega
  have hat := h1.acc hlm
  rcases Bool.eq_false_or_eq_true (right t) with hr | hr
  · rw [hr] at hck
    have e1 : ∀ i j : Int, i = amt f t.frm → j = nnc f t.frm → refE f t = if t.nonce ≠ j + 1 then 90 else if i < t.amount then 91 else 0 := by
      rintro i j rfl rfl; unfold refE; rw [if_neg (by rw [hr]; decide)]
    obtain ⟨i, hi⟩ : ∃ i, i = amt f t.frm := ⟨_, rfl⟩
    obtain ⟨j, hj⟩ : ∃ j, j = nnc f t.frm := ⟨_, rfl⟩
    rw [e1 i j hi hj]
    rw [← hi, ← hj] at hat hsn
    have hw1 : wrap64 (j + 1) = j + 1 := IntWalk.wrap64_in _ ⟨by omega, by omega⟩
    have HC := Lib.hid hck
    clear hck hi hj h1 h2 e1 hr hs hwf
    obtain ⟨k, hk⟩ : ∃ k, k = t.nonce := ⟨_, rfl⟩
    obtain ⟨m, hm⟩ : ∃ m, m = t.amount := ⟨_, rfl⟩
    have B1 := Lib.hid (fun w1 hb => by have := B0.out w1 hb; rw [← hk, ← hm] at this; exact this)
    rw [← hk, ← hm]
    clear hk hm B0
    have B0 := B1
    by_cases hn : k = j + 1
    · rw [if_neg (by omega)]
      have hq : (k != wrap64 (j + 1)) = false := by rw [hw1, hn]; simp
      by_cases ha : i < m
      · rw [if_pos ha]
        go_enter Tryz.func26, Tryz.ntmps26
        go_wp2_with (first
          | (go_at_call 51; refine HC.out.mono ?_; rintro e w1 ⟨rfl, hb1⟩; obtain ⟨d0, d1, d2, d3, d4, d5, d6⟩ := B0.out _ hb1
             have hb2 := L6.nxt hb0 hb1 hb0.size
             have q0 := (hb2.cell (p := ⟨g, 0, none⟩) hblk.lt).trans (hblk.cell 0)
             have hA1 := L6.Turn.map (S := fun _ => False) (L6.Turn.of_keep hb2) hA (fun h => h))
          | (refine wpList_row_at rfl _ _ rfl w.heap.size rfl _ _ _ _ k0 Tryz.underlying40 rfl (by kernel_rfl) ?_)
          | go_in)
        have hS : holdR g ba w.heap.size t.frm DA n w1.drew := ⟨q0, d1, hA1⟩
        refine wp_region_K (holdR g ba w.heap.size t.frm DA n) [0, 1, 2, 3, 4, 5, 6] (by kernel_rfl) ?_
        refine wpK_quiet (f := 2) (by kernel_rfl) (fun _ x _ _ _ h => by cases x <;> exact h) hS [0, 1, 2, 3, 4, 5, 6] _ _ (by kernel_rfl) (by kernel_rfl) (by kernel_rfl) ?_
        have ne : Nonempty (WorldIn (holdR g ba w.heap.size t.frm DA n)) := ⟨⟨_, hS⟩⟩
        have r0 := fun y : WorldIn (holdR g ba w.heap.size t.frm DA n) => y.h.1
        have r1 := fun y : WorldIn (holdR g ba w.heap.size t.frm DA n) => y.h.2.1
        conv => arg 5; simp [pick]
        iterate 6 go_big_quiet_step (fail)
        refine wpQuiet_value rfl (fun y => exec_look _ _ rfl ba DA rfl y.h.2.2 t.frm rfl hlm i j hat) ?_
        conv => arg 6; simp only [Act.put, List.setIfInBounds_toArray, List.set_cons_zero, List.set_cons_succ]
        refine wpQuiet_nil ?_
        refine wpK_step 7 (by kernel_rfl) rfl ?_
        go_wp2
        refine stepQ.mk ⟨fun _ => hS.below ((Below.refl _ _).alloc (Nat.le_refl _) _), ?_⟩
        refine wpK_seq [8] _ _ _ (by kernel_rfl) ?_
        conv => arg 4; simp [pick]
        have hb3 : Below (w.alloc (.cells (txC t) 40)).heap.size (w.alloc (.cells (txC t) 40)) ((w1.alloc (.cells #[.int .i64 i, .int .i64 j] 57)).drew) := (hb1.alloc hb1.size _).drew
        obtain ⟨x0, x1, x2, x3, x4, x5, x6⟩ := B0.out _ hb3
        go_wp2
        go_ret
        exact ⟨rfl, (hb2.alloc hb2.size _).drew⟩
      · rw [if_neg ha]
        go_enter Tryz.func26, Tryz.ntmps26
        go_wp2_with (first
          | (go_at_call 51; refine HC.out.mono ?_; rintro e w1 ⟨rfl, hb1⟩; obtain ⟨d0, d1, d2, d3, d4, d5, d6⟩ := B0.out _ hb1
             have hb2 := L6.nxt hb0 hb1 hb0.size
             have q0 := (hb2.cell (p := ⟨g, 0, none⟩) hblk.lt).trans (hblk.cell 0)
             have hA1 := L6.Turn.map (S := fun _ => False) (L6.Turn.of_keep hb2) hA (fun h => h))
          | (refine wpList_row_at rfl _ _ rfl w.heap.size rfl _ _ _ _ k0 Tryz.underlying40 rfl (by kernel_rfl) ?_)
          | go_in)
        have hS : holdR g ba w.heap.size t.frm DA n w1.drew := ⟨q0, d1, hA1⟩
        refine wp_region_K (holdR g ba w.heap.size t.frm DA n) [0, 1, 2, 3, 4, 5, 6] (by kernel_rfl) ?_
        refine wpK_quiet (f := 2) (by kernel_rfl) (fun _ x _ _ _ h => by cases x <;> exact h) hS [0, 1, 2, 3, 4, 5, 6] _ _ (by kernel_rfl) (by kernel_rfl) (by kernel_rfl) ?_
        have ne : Nonempty (WorldIn (holdR g ba w.heap.size t.frm DA n)) := ⟨⟨_, hS⟩⟩
        have r0 := fun y : WorldIn (holdR g ba w.heap.size t.frm DA n) => y.h.1
        have r1 := fun y : WorldIn (holdR g ba w.heap.size t.frm DA n) => y.h.2.1
        conv => arg 5; simp [pick]
        iterate 6 go_big_quiet_step (fail)
        refine wpQuiet_value rfl (fun y => exec_look _ _ rfl ba DA rfl y.h.2.2 t.frm rfl hlm i j hat) ?_
        conv => arg 6; simp only [Act.put, List.setIfInBounds_toArray, List.set_cons_zero, List.set_cons_succ]
        refine wpQuiet_nil ?_
        refine wpK_step 7 (by kernel_rfl) rfl ?_
        go_wp2
        refine stepQ.mk ⟨fun _ => hS.below ((Below.refl _ _).alloc (Nat.le_refl _) _), ?_⟩
        refine wpK_seq [8] _ _ _ (by kernel_rfl) ?_
        conv => arg 4; simp [pick]
        have hb3 : Below (w.alloc (.cells (txC t) 40)).heap.size (w.alloc (.cells (txC t) 40)) ((w1.alloc (.cells #[.int .i64 i, .int .i64 j] 57)).drew) := (hb1.alloc hb1.size _).drew
        obtain ⟨x0, x1, x2, x3, x4, x5, x6⟩ := B0.out _ hb3
        go_wp2
        go_ret
        exact ⟨rfl, (hb2.alloc hb2.size _).drew⟩
    · rw [if_pos hn]
      have hq : (k != wrap64 (j + 1)) = true := by rw [hw1, bne_iff_ne]; exact hn
      go_enter Tryz.func26, Tryz.ntmps26
      go_wp2_with (first
        | (go_at_call 51; refine HC.out.mono ?_; rintro e w1 ⟨rfl, hb1⟩; obtain ⟨d0, d1, d2, d3, d4, d5, d6⟩ := B0.out _ hb1
           have hb2 := L6.nxt hb0 hb1 hb0.size
           have q0 := (hb2.cell (p := ⟨g, 0, none⟩) hblk.lt).trans (hblk.cell 0)
           have hA1 := L6.Turn.map (S := fun _ => False) (L6.Turn.of_keep hb2) hA (fun h => h))
        | (refine wpList_row_at rfl _ _ rfl w.heap.size rfl _ _ _ _ k0 Tryz.underlying40 rfl (by kernel_rfl) ?_)
        | go_in)
      have hS : holdR g ba w.heap.size t.frm DA n w1.drew := ⟨q0, d1, hA1⟩
      refine wp_region_K (holdR g ba w.heap.size t.frm DA n) [0, 1, 2, 3, 4, 5, 6] (by kernel_rfl) ?_
      refine wpK_quiet (f := 2) (by kernel_rfl) (fun _ x _ _ _ h => by cases x <;> exact h) hS [0, 1, 2, 3, 4, 5, 6] _ _ (by kernel_rfl) (by kernel_rfl) (by kernel_rfl) ?_
      have ne : Nonempty (WorldIn (holdR g ba w.heap.size t.frm DA n)) := ⟨⟨_, hS⟩⟩
      have r0 := fun y : WorldIn (holdR g ba w.heap.size t.frm DA n) => y.h.1
      have r1 := fun y : WorldIn (holdR g ba w.heap.size t.frm DA n) => y.h.2.1
      conv => arg 5; simp [pick]
      iterate 6 go_big_quiet_step (fail)
      refine wpQuiet_value rfl (fun y => exec_look _ _ rfl ba DA rfl y.h.2.2 t.frm rfl hlm i j hat) ?_
      conv => arg 6; simp only [Act.put, List.setIfInBounds_toArray, List.set_cons_zero, List.set_cons_succ]
      refine wpQuiet_nil ?_
      refine wpK_step 7 (by kernel_rfl) rfl ?_
      go_wp2
      refine stepQ.mk ⟨fun _ => hS.below ((Below.refl _ _).alloc (Nat.le_refl _) _), ?_⟩
      refine wpK_seq [8] _ _ _ (by kernel_rfl) ?_
      conv => arg 4; simp [pick]
      have hb3 : Below (w.alloc (.cells (txC t) 40)).heap.size (w.alloc (.cells (txC t) 40)) ((w1.alloc (.cells #[.int .i64 i, .int .i64 j] 57)).drew) := (hb1.alloc hb1.size _).drew
      obtain ⟨x0, x1, x2, x3, x4, x5, x6⟩ := B0.out _ hb3
      go_wp2
      go_ret
      exact ⟨rfl, (hb2.alloc hb2.size _).drew⟩
  · rw [hr] at hck
    rw [refE_80 hr]
    have HC := Lib.hid hck
    clear hck h1 h2 hr hs hwf hat hsn
    go_enter Tryz.func26, Tryz.ntmps26
    go_wp2_with (first
      | (go_at_call 51; refine HC.out.mono ?_; rintro e w1 ⟨rfl, hb1⟩; obtain ⟨d0, d1, d2, d3, d4, d5, d6⟩ := B0.out _ hb1
         have hb2 := L6.nxt hb0 hb1 hb0.size
         have q0 := (hb2.cell (p := ⟨g, 0, none⟩) hblk.lt).trans (hblk.cell 0)
         have hA1 := L6.Turn.map (S := fun _ => False) (L6.Turn.of_keep hb2) hA (fun h => h))
      | (refine wpList_row_at rfl _ _ rfl w.heap.size rfl _ _ _ _ k0 Tryz.underlying40 rfl (by kernel_rfl) ?_)
      | go_in)
    go_ret
    exact ⟨rfl, hb2⟩
/-- Two together. -/
def twoF (f : FA) : Prop := ∀ a b, a ≠ b → amt f a + amt f b ≤ 4611686018427387904
/-- Accounts behind a payment. -/
def payF (f : FA) (t : Txx) : FA := putF f t.frm (amt f t.frm + -t.amount, nnc f t.frm + 1)
def doF (f : FA) (t : Txx) : FA := if refE f t ≠ 0 then f else if t.kind = 1 then putF (payF f t) t.to (amt (payF f t) t.to + t.amount, nnc (payF f t) t.to + 0) else payF f t
def doV (f : FA) (v : FV) (t : Txx) : FV := if refE f t ≠ 0 then v else if t.kind = 1 then v else putG v (t.frm, t.key) t.val
theorem refE_ok {f : FA} {t : Txx} (h : refE f t = 0) : right t = true ∧ t.nonce = nnc f t.frm + 1 ∧ t.amount ≤ amt f t.frm := by
  unfold refE at h
  split at h
  · omega
  split at h
  · omega
  split at h
  · omega
  next h1 h2 h3 => exact ⟨by simpa using h1, Classical.byContradiction h2, by omega⟩
theorem amt_put (f : FA) (k : List UInt8) (p : Int × Int) (l : List UInt8) : amt (putF f k p) l = if l = k then p.1 else amt f l := by unfold amt putF; split <;> rfl
theorem nnc_put (f : FA) (k : List UInt8) (p : Int × Int) (l : List UInt8) : nnc (putF f k p) l = if l = k then p.2 else nnc f l := by unfold nnc putF; split <;> rfl
theorem do_nil (t : Txx) (w : World) : Calls Tryz.prog 11 #[.pointer none, .agg (txC t)] w (gives (.int .i64 3) w) := by
  have hb0 : Below w.heap.size w (w.alloc (.cells (txC t) 40)) := below_box _ t
  have k0 := box_new w 40 t
  have HR := Lib.hid (refuses_nil t (w.alloc (.cells (txC t) 40)))
  go_enter Tryz.func11, Tryz.ntmps11
  go_wp2_with (first
    | (go_at_call 26; refine HR.out.mono ?_; rintro e w1 ⟨rfl, hb1⟩)
    | (refine wpList_row_at rfl _ _ rfl w.heap.size rfl _ _ _ _ k0 Tryz.underlying40 rfl (by kernel_rfl) ?_)
    | go_in)
  go_ret
  exact ⟨rfl, L6.nxt hb0 hb1 hb0.size⟩
set_option maxHeartbeats 2000000 in
set_option maxRecDepth 100000 in
theorem do_no (h : St w S g f v n) (t : Txx) (hwf : t.wf 1000000) (hT : Tabs w) (hs : saneF f) (he : refE f t ≠ 0) :
    Calls Tryz.prog 11 #[.pointer (some ⟨g, 0, none⟩), .agg (txC t)] w (gives (.int .i64 (refE f t)) w) := by
  have hb0 : Below w.heap.size w (w.alloc (.cells (txC t) 40)) := below_box _ t
  have k0 := box_new w 40 t
  have HR := Lib.hid (refuses_any (h.below hb0) t hwf (hT.kept hb0) hs)
  obtain ⟨q, hq⟩ : ∃ q, q = refE f t := ⟨_, rfl⟩
  rw [← hq] at HR he ⊢
  have e1 : (q != 0) = true := by rw [bne_iff_ne]; exact he
  clear hq he h hwf hT hs
  go_enter Tryz.func11, Tryz.ntmps11
  go_wp2_with (first
    | (go_at_call 26; refine HR.out.mono ?_; rintro e w1 ⟨rfl, hb1⟩)
    | (refine wpList_row_at rfl _ _ rfl w.heap.size rfl _ _ _ _ k0 Tryz.underlying40 rfl (by kernel_rfl) ?_)
    | go_in)
  go_ret
  exact ⟨rfl, L6.nxt hb0 hb1 hb0.size⟩
theorem more2 {S : Nat → Prop} {w w1 w3 w4 : World} (h1 : w.heap.size ≤ w1.heap.size) (h3 : w1.heap.size ≤ w3.heap.size) (h4 : w3.heap.size ≤ w4.heap.size) : ∀ k, k < w4.heap.size → moreB (moreB S w1 w3) w3 w4 k → moreB S w w4 k := fun k hk h => by
  rcases h with (h | h) | h
  · exact .inl h
  · exact .inr ⟨Nat.le_trans h1 h.1, hk⟩
  · exact .inr ⟨by have := h.1; omega, hk⟩
theorem turn2 {S : Nat → Prop} {w w1 w3 w4 : World} (hb : Below w.heap.size w w1) (h3 : Turn S w1 w3) (h4 : Turn (moreB S w1 w3) w3 w4) : Turn S w w4 :=
  ((L6.Turn.of_keep hb).trans h3 (fun i h => .inl h)).trans h4 (fun i h => by
    rcases h with h | h
    · exact .inl h
    · exact .inr (Nat.le_trans hb.size h.1))
set_option maxHeartbeats 2000000 in
set_option maxRecDepth 100000 in
theorem do_move (h : St w S g f v n) (hin : In w S) (t : Txx) (hwf : t.wf 1000000) (hT : Tabs w) (hs : saneF f) (h2 : twoF f) (hn : n + 3 ≤ maxLen) (he : refE f t = 0) (hk : t.kind = 1) :
    Calls Tryz.prog 11 #[.pointer (some ⟨g, 0, none⟩), .agg (txC t)] w fun e w' => e = .returned (.int .i64 0) ∧ St w' (moreB S w w') g (doF f t) v (n + 2) ∧ Turn S w w' := by
  have hb0 : Below w.heap.size w (w.alloc (.cells (txC t) 40)) := below_box _ t
  have k0 := box_new w 40 t
  have hr := refuses_any (h.below hb0) t hwf (hT.kept hb0) hs
  rw [he] at hr
  obtain ⟨hri, hno, hle⟩ := refE_ok he
  obtain ⟨m1, m2, m3, m4, _⟩ := right_move hri hk
  have hp := posN_in m4
  have hf1 := hs t.frm
  have hf2 := hs t.to
  have hamt : 0 ≤ amt (payF f t) t.to ∧ amt (payF f t) t.to + t.amount ≤ 4611686018427387904 := by
    unfold payF
    rw [amt_put]
    split
    · dsimp only; omega
    · next hne => have := h2 _ _ hne; omega
  have hnnc : 0 ≤ nnc (payF f t) t.to ∧ nnc (payF f t) t.to ≤ 4611686018427387905 := by
    unfold payF
    rw [nnc_put]
    split
    · dsimp only; omega
    · omega
  have hA1 := fun W (hs : St W S g f v n) => add_any hs t.frm (-t.amount) 1 (by have := name_size m2; omega) (by omega) (IntWalk.wrap64_in _ ⟨by omega, by omega⟩) (IntWalk.wrap64_in _ ⟨by omega, by omega⟩)
  have hA2 := fun W S' (hs : St W S' g (payF f t) v (n + 1)) => add_any hs t.to t.amount 0 (by have := name_size m3; omega) (by omega) (IntWalk.wrap64_in _ ⟨by omega, by omega⟩) (IntWalk.wrap64_in _ ⟨by omega, by omega⟩)
  have hD : doF f t = putF (payF f t) t.to (amt (payF f t) t.to + t.amount, nnc (payF f t) t.to + 0) := by unfold doF; rw [if_neg (by omega), if_pos hk]
  rw [← hD] at hA2
  rw [show putF f t.frm (amt f t.frm + -t.amount, nnc f t.frm + 1) = payF f t from rfl] at hA1
  have hneg : wrap64 (-t.amount) = -t.amount := IntWalk.wrap64_in _ ⟨by omega, by omega⟩
  have K1 : Hid (t.kind = 1) := Lib.hid hk
  have HR := Lib.hid hr
  have HA1 := Lib.hid hA1
  have HA2 := Lib.hid hA2
  have HS := Lib.hid h
  have hek : (t.kind == 1) = true := by rw [hk]; rfl
  clear hr hA1 hA2 h hwf hT hs h2 he hri hno hle m1 m2 m3 m4 hp hf1 hf2 hamt hnnc hk hD hn
  go_enter Tryz.func11, Tryz.ntmps11
  go_wp2_with (first
    | (go_at_call 26; refine HR.out.mono ?_; rintro e w1 ⟨rfl, hb1⟩
       have hb2 := L6.nxt hb0 hb1 hb0.size
       have k1 : Blk w1 w.heap.size 40 (txC t) := k0.below hb1 (by simp)
       have hs1 := HS.out.below hb2
       obtain ⟨d0, d1, d2, d3, d4, d5, d6⟩ := box_of k1)
    | (go_at_call 27; with_reducible refine (HA1.out _ hs1).mono ?_; rintro e w3 ⟨rfl, hs3, ht3⟩
       have k3 : Blk w3 w.heap.size 40 (txC t) := ht3.blk k1 (fun h => absurd (hin _ h) (Nat.lt_irrefl _))
       obtain ⟨x0, x1, x2, x3, x4, x5, x6⟩ := box_of k3)
    | (go_at_call 27; with_reducible refine (HA2.out _ _ hs3).mono ?_; rintro e w4 ⟨rfl, hs4, ht4⟩)
    | (refine wpList_row_at rfl _ _ rfl w.heap.size rfl _ _ _ _ k0 Tryz.underlying40 rfl (by kernel_rfl) ?_)
    | go_in)
  go_ret
  exact ⟨rfl, hs4.mono (more2 hb2.size ht3.size ht4.size), turn2 hb2 ht3 ht4⟩
set_option maxHeartbeats 2000000 in
set_option maxRecDepth 100000 in
theorem do_put (h : St w S g f v n) (hin : In w S) (t : Txx) (hwf : t.wf 1000000) (hT : Tabs w) (hs : saneF f) (hn : n + 3 ≤ maxLen) (he : refE f t = 0) (hk : t.kind ≠ 1) :
    Calls Tryz.prog 11 #[.pointer (some ⟨g, 0, none⟩), .agg (txC t)] w fun e w' => e = .returned (.int .i64 0) ∧ St w' (moreB S w w') g (doF f t) (doV f v t) (n + 2) ∧ Turn S w w' := by
  have hb0 : Below w.heap.size w (w.alloc (.cells (txC t) 40)) := below_box _ t
  have k0 := box_new w 40 t
  have hr := refuses_any (h.below hb0) t hwf (hT.kept hb0) hs
  rw [he] at hr
  obtain ⟨hri, hno, hle⟩ := refE_ok he
  obtain ⟨m1, m2, m3, m4, m5, m6, m7⟩ := right_put hri hk
  have hp := posN_in m1
  have hf1 := hs t.frm
  have hneg : wrap64 (-t.amount) = -t.amount := IntWalk.wrap64_in _ ⟨by omega, by omega⟩
  have hA1 := fun W (hs : St W S g f v n) => add_any hs t.frm (-t.amount) 1 (by have := name_size m2; omega) (by omega) (IntWalk.wrap64_in _ ⟨by omega, by omega⟩) (IntWalk.wrap64_in _ ⟨by omega, by omega⟩)
  have hA2 := fun W S' (hs : St W S' g (payF f t) v (n + 1)) => set_any hs (t.frm, t.key) t.val (by have := name_size m2; dsimp only; omega) (by have := name_size m3; dsimp only; omega) (by have := value_size m4; omega) (by omega)
  have hD : doF f t = payF f t := by unfold doF; rw [if_neg (by omega), if_neg hk]
  have hV : doV f v t = putG v (t.frm, t.key) t.val := by unfold doV; rw [if_neg (by omega), if_neg hk]
  rw [← hV, ← hD] at hA2
  rw [show putF f t.frm (amt f t.frm + -t.amount, nnc f t.frm + 1) = payF f t from rfl, ← hD] at hA1
  have HR := Lib.hid hr
  have HA1 := Lib.hid hA1
  have HA2 := Lib.hid hA2
  have HS := Lib.hid h
  have hek : (t.kind == 1) = false := by rw [m7]; rfl
  have hek2 : (t.kind == 2) = true := by rw [m7]; rfl
  clear hr hA1 hA2 h hwf hT hs he hri hno hle m1 m2 m3 m4 m5 m6 m7 hp hf1 hk hD hV hn
  go_enter Tryz.func11, Tryz.ntmps11
  go_wp2_with (first
    | (go_at_call 26; refine HR.out.mono ?_; rintro e w1 ⟨rfl, hb1⟩
       have hb2 := L6.nxt hb0 hb1 hb0.size
       have k1 : Blk w1 w.heap.size 40 (txC t) := k0.below hb1 (by simp)
       have hs1 := HS.out.below hb2
       obtain ⟨d0, d1, d2, d3, d4, d5, d6⟩ := box_of k1)
    | (go_at_call 27; with_reducible refine (HA1.out _ hs1).mono ?_; rintro e w3 ⟨rfl, hs3, ht3⟩
       have k3 : Blk w3 w.heap.size 40 (txC t) := ht3.blk k1 (fun h => absurd (hin _ h) (Nat.lt_irrefl _))
       obtain ⟨x0, x1, x2, x3, x4, x5, x6⟩ := box_of k3)
    | (go_at_call 28; refine (HA2.out _ _ hs3).mono ?_; rintro e w4 ⟨rfl, hs4, ht4⟩)
    | (refine wpList_row_at rfl _ _ rfl w.heap.size rfl _ _ _ _ k0 Tryz.underlying40 rfl (by kernel_rfl) ?_)
    | go_in)
  go_ret
  exact ⟨rfl, hs4.mono (more2 hb2.size ht3.size ht4.size), turn2 hb2 ht3 ht4⟩
/-- What Do tells and leaves. -/
theorem do_any (h : St w S g f v n) (hin : In w S) (t : Txx) (hwf : t.wf 1000000) (hT : Tabs w) (hs : saneF f) (h2 : twoF f) (hn : n + 3 ≤ maxLen) :
    Calls Tryz.prog 11 #[.pointer (some ⟨g, 0, none⟩), .agg (txC t)] w fun e w' => e = .returned (.int .i64 (refE f t)) ∧ St w' (moreB S w w') g (doF f t) (doV f v t) (n + 2) ∧ Turn S w w' := by
  by_cases he : refE f t = 0
  · by_cases hk : t.kind = 1
    · have := do_move h hin t hwf hT hs h2 hn he hk
      rw [he]
      rw [show v = doV f v t by unfold doV; rw [if_neg (by omega), if_pos hk]] at this
      exact this
    · rw [he]; exact do_put h hin t hwf hT hs hn he hk
  · refine (do_no h t hwf hT hs he).mono ?_
    rintro e w' ⟨rfl, hb⟩
    have e1 : doF f t = f := by unfold doF; rw [if_pos he]
    have e2 : doV f v t = v := by unfold doV; rw [if_pos he]
    rw [e1, e2]
    exact ⟨rfl, ((h.below hb).le (Nat.le_add_right n 2)).mono (fun _ _ h => .inl h), L6.Turn.of_keep hb⟩
end
end Go.Proofs.YthkgadjiiapfgaaGreatDoor
