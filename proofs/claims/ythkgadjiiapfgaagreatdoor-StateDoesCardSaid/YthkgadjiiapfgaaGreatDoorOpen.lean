/-
  An account opened behind others.
-/
import Derived.Test.YthkgadjiiapfgaaGreatDoorDel
import Derived.IntWalk
set_option linter.unusedSimpArgs false
set_option linter.unusedVariables false
set_option maxRecDepth 10000
namespace Go.Proofs.YthkgadjiiapfgaaGreatDoor
open Go.RowKit Go.Maps Go.Lib
open L3 (Blk)
open L6 (Turn moreB fresh From In)
open L2 (chk)

/-- What a name began with. -/
def amM : List Am → List UInt8 → Int
  | [], _ => 0
  | p :: P, k => if p.nm = k then p.am else amM P k
/-- Accounts as they began, as a map tells them. -/
def fM (P : List Am) : FA := fun k => if inM P k = true then some (amM P k, 0) else none
theorem amM_app (P Q : List Am) (k : List UInt8) : amM (P ++ Q) k = if inM P k = true then amM P k else amM Q k := by
  induction P with
  | nil => simp [inM]
  | cons p P ih =>
    rw [List.cons_append, amM, amM]
    by_cases h : p.nm = k
    · rw [if_pos h, if_pos h, if_pos (by simp [inM, h])]
    · rw [if_neg h, if_neg h, ih]
      have : inM (p :: P) k = inM P k := by simp [inM, h]
      rw [this]
theorem inM_snoc (P : List Am) (p : Am) (k : List UInt8) : inM (P ++ [p]) k = (inM P k || decide (p.nm = k)) := by simp [inM]
theorem fM_nil : fM [] = fun _ => none := by funext k; simp [fM, inM]
theorem fM_snoc {P : List Am} {p : Am} (h : inM P p.nm = false) : fM (P ++ [p]) = putF (fM P) p.nm (p.am, 0) := by
  funext k
  unfold fM putF
  rw [inM_snoc, amM_app]
  by_cases hk : k = p.nm
  · subst hk
    rw [h]
    simp [amM]
  · have hk' : ¬ p.nm = k := fun e => hk e.symm
    rw [if_neg hk, decide_eq_false hk', Bool.or_false]
    by_cases hi : inM P k = true
    · simp [hi]
    · simp [hi]
theorem ofA_acc0 (P : List Am) (k : List UInt8) : ofA (P.map acc0) k = ⟨k, amM P k, 0⟩ := by
  induction P with
  | nil => rfl
  | cons p P ih =>
    rw [List.map_cons, ofA, amM]
    by_cases h : p.nm = k
    · rw [if_pos (show (acc0 p).nm = k from h), if_pos h]; unfold acc0; rw [h]
    · rw [if_neg (show ¬ (acc0 p).nm = k from h), if_neg h, ih]
theorem amM_not {P : List Am} {k : List UInt8} (h : inM P k = false) : amM P k = 0 := by
  have h' := (inM_not P k).1 h
  clear h
  induction P with
  | nil => rfl
  | cons p P ih => rw [amM, if_neg (h' p (List.mem_cons_self ..)), ih fun x hx => h' x (List.mem_cons_of_mem _ hx)]
theorem strike_fM (P : List Am) : (fun z => (fM P z).filter (fun y => !decide (y.1 = 0))) = fA ⟨P.map acc0, []⟩ := by
  funext k
  unfold fA fM someA
  rw [ofA_acc0]
  dsimp only
  rcases Bool.eq_false_or_eq_true (inM P k) with hi | hi
  · rw [if_pos hi]
    by_cases h0 : amM P k = 0
    · simp [h0, Option.filter]
    · simp [h0, Option.filter]
  · rw [if_neg (by rw [hi]; decide), amM_not hi]
    simp
theorem oneE_named {P : List Am} {p : Am} (h : chk p.nm = false ∨ p.am < 0) : oneE P p = 1 := by unfold oneE; rw [if_pos h]
theorem oneE_there {P : List Am} {p : Am} (h : ¬ (chk p.nm = false ∨ p.am < 0)) (hi : inM P p.nm = true) : oneE P p = 100 := by unfold oneE; rw [if_neg h, if_pos hi]
theorem oneE_sum {P : List Am} {p : Am} (hg : Good P) (h : ¬ (chk p.nm = false ∨ p.am < 0)) (hi : inM P p.nm = false) : oneE P p = L1.oke (L1.al (totM P) && L1.al p.am) (totM P + p.am) := by
  have h0 := hg.tot
  have h1 := hg.low
  have h2 : 0 ≤ p.am := Classical.byContradiction fun hn => h (.inr (by omega))
  unfold oneE L1.oke
  rw [if_neg h, if_neg (by rw [hi]; decide)]
  have ha : L1.al (totM P) = true := L1.al_iff.2 ⟨by omega, h1⟩
  rw [ha, Bool.true_and]
  by_cases hs : 4611686018427387904 < totM P + p.am
  · rw [if_pos hs, if_neg]
    rw [Bool.and_eq_true, L1.al_iff, L1.al_iff]
    omega
  · rw [if_neg hs, if_pos]
    rw [Bool.and_eq_true, L1.al_iff, L1.al_iff]
    omega
theorem val_sum {P : List Am} {p : Am} (hg : Good P) (h : ¬ (chk p.nm = false ∨ p.am < 0)) (hi : inM P p.nm = false) : L1.okv (L1.al (totM P) && L1.al p.am) (totM P + p.am) = if oneE P p = 0 then totM P + p.am else 0 := by
  rw [oneE_sum hg h hi]
  unfold L1.okv L1.oke
  split
  · rfl
  · rfl
/-- The two cells of an account that is handed in. -/
def amL (p : Am) : List Value := [.string (str p.nm), .int .i64 p.am]
/-- What the reads meet. -/
def holdO (g ba m : Nat) (p : Am) (D : DataW Unit) (n : Nat) (W : World) : Prop := W.cell? ⟨g, 0, none⟩ = some (.map (some ba)) ∧ W.cell? ⟨m, 0, none⟩ = some (.string (str p.nm)) ∧ W.ownsMap Tryz.prog 9 accElem ba n D
theorem holdO.below {g ba m n : Nat} {p : Am} {D : DataW Unit} {W W' : World} (h : holdO g ba m p D n W) (hb : Below W.heap.size W W') : holdO g ba m p D n W' :=
  ⟨(hb.cell (p := ⟨g, 0, none⟩) (L2.cell_in h.1)).trans h.1, (hb.cell (p := ⟨m, 0, none⟩) (L2.cell_in h.2.1)).trans h.2.1, L6.Turn.map (S := fun _ => False) (L6.Turn.of_keep hb) h.2.2 (fun h => h)⟩
section
variable {S : Nat → Prop} {g n : Nat} {v : FV} {w : World} {P : List Am}
set_option maxHeartbeats 1000000 in
set_option maxRecDepth 100000 in
theorem open_no (p : Am) (t : Int) (hl : p.nm.length ≤ maxLen) (he : chk p.nm = false ∨ p.am < 0) :
    Calls Tryz.prog 16 #[.pointer (some ⟨g, 0, none⟩), .agg #[.string (str p.nm), .int .i64 p.am], .int .i64 t] w (gives (.tuple #[.int .i64 0, .int .i64 1]) w) := by
  have hcn := fun w => c_name p.nm w (by unfold maxLen at hl; omega)
  have hb0 : Below w.heap.size w (w.alloc (.cells #[.string (str p.nm), .int .i64 p.am] 45)) := (Below.refl _ _).alloc (Nat.le_refl _) _
  have hbk : Blk (w.alloc (.cells #[.string (str p.nm), .int .i64 p.am] 45)) w.heap.size 45 #[.string (str p.nm), .int .i64 p.am] := Blk.new _ _ _
  rcases Bool.eq_false_or_eq_true (chk p.nm) with hc | hc
  · rw [hc] at hcn
    have h1 : p.am < 0 := he.elim (fun h => by rw [hc] at h; cases h) id
    go_enter Tryz.func16, Tryz.ntmps16
    go_wp2_with (first
      | (go_at_call 44; refine (hcn _).mono ?_; rintro e w1 ⟨rfl, hb1⟩; have c1 := (hb1.cell (p := ⟨w.heap.size, 1, none⟩) (by simp)).trans (hbk.cell 1))
      | go_in)
    go_ret2
    exact ⟨rfl, L6.nxt hb0 hb1 hb0.size⟩
  · rw [hc] at hcn
    go_enter Tryz.func16, Tryz.ntmps16
    go_wp2_with (first
      | (go_at_call 44; refine (hcn _).mono ?_; rintro e w1 ⟨rfl, hb1⟩)
      | go_in)
    go_ret2
    exact ⟨rfl, L6.nxt hb0 hb1 hb0.size⟩
theorem exec_look_ok {ev : Operand → Value} {o : Oper} {W : World} (m x : Operand) (hop : o.op = Op.lookup 49 m x true) (b : Nat) (D : DataW Unit) (hm : ev m = .map (some b)) (hown : W.ownsMap Tryz.prog 9 accElem b n D)
    (l : List UInt8) (hx : ev x = .string (str l)) (hl : l.length ≤ maxLen) (i j : Int) (r : Bool) (hat : D.atKey (.string l) (accD (0, 0)) = accD (i, j)) (hh : Maps.has D (.string l) = r) :
    (execOp ev o).run Tryz.prog W = .ok (.value (.tuple #[.agg #[.int .i64 i, .int .i64 j], .bool r])) W := by
  obtain ⟨v, ps, hrun, hv⟩ := hown.look_ok kdN Tryz.underlying49 (zeroAcc W) (show accElem (.agg #[.int .i64 0, .int .i64 0]) = some (accD (0, 0), []) from rfl) (keyN hl)
  obtain rfl := acc_is hv hat
  rw [hh] at hrun
  simp [execOp, hop, hm, hx, hrun, Result.andThen]
set_option maxHeartbeats 1000000 in
set_option maxRecDepth 100000 in
theorem open_there (h : St w S g (fM P) v n) (p : Am) (t : Int) (hl : p.nm.length ≤ maxLen) (he : ¬ (chk p.nm = false ∨ p.am < 0)) (hi : inM P p.nm = true) :
    Calls Tryz.prog 16 #[.pointer (some ⟨g, 0, none⟩), .agg #[.string (str p.nm), .int .i64 p.am], .int .i64 t] w (gives (.tuple #[.int .i64 0, .int .i64 100]) w) := by
  have hcn := fun w => c_name p.nm w (by unfold maxLen at hl; omega)
  have hc : chk p.nm = true := by cases hx : chk p.nm with
    | true => rfl
    | false => exact absurd (.inl hx) he
  rw [hc] at hcn
  have h0 : ¬ p.am < 0 := fun h => he (.inr h)
  obtain ⟨ba, bv, DA, DV, hblk, hA, hV, h1, h2, h3, h4, h5, h6⟩ := h
  have hat := h1.acc hl
  have hhas : Maps.has DA (.string p.nm) = true := by have := (h1 p.nm hl).1; unfold fM at this; rw [if_pos hi] at this; exact this
  obtain ⟨i, hi'⟩ : ∃ i, i = amt (fM P) p.nm := ⟨_, rfl⟩
  obtain ⟨j, hj'⟩ : ∃ j, j = nnc (fM P) p.nm := ⟨_, rfl⟩
  rw [← hi', ← hj'] at hat
  clear hi' hj' h1
  have hb0 : Below w.heap.size w (w.alloc (.cells #[.string (str p.nm), .int .i64 p.am] 45)) := (Below.refl _ _).alloc (Nat.le_refl _) _
  have hbk : Blk (w.alloc (.cells #[.string (str p.nm), .int .i64 p.am] 45)) w.heap.size 45 #[.string (str p.nm), .int .i64 p.am] := Blk.new _ _ _
  go_enter Tryz.func16, Tryz.ntmps16
  go_wp2_with (first
    | (go_at_call 44; refine (hcn _).mono ?_; rintro e w1 ⟨rfl, hb1⟩; have c1 := (hb1.cell (p := ⟨w.heap.size, 1, none⟩) (by simp)).trans (hbk.cell 1))
    | go_in)
  have hb2 := L6.nxt hb0 hb1 hb0.size
  have hS : holdO g ba w.heap.size p DA n w1.drew := ⟨(hb2.cell (p := ⟨g, 0, none⟩) hblk.lt).trans (hblk.cell 0), (hb1.cell (p := ⟨w.heap.size, 0, none⟩) (by simp)).trans (hbk.cell 0), L6.Turn.map (S := fun _ => False) (L6.Turn.of_keep hb2).drew hA (fun h => h)⟩
  refine wp_region_K (holdO g ba w.heap.size p DA n) [0, 1, 2, 3, 4, 5, 6, 7, 8, 9] (by kernel_rfl) ?_
  refine wpK_quiet (f := 3) (by kernel_rfl) (fun _ x _ _ _ h => by cases x <;> exact h) hS [0, 1, 2, 3, 4, 5, 6, 7, 8, 9] _ _ (by kernel_rfl) (by kernel_rfl) (by kernel_rfl) ?_
  have ne : Nonempty (WorldIn (holdO g ba w.heap.size p DA n)) := ⟨⟨_, hS⟩⟩
  have q0 := fun y : WorldIn (holdO g ba w.heap.size p DA n) => y.h.1
  have q1 := fun y : WorldIn (holdO g ba w.heap.size p DA n) => y.h.2.1
  conv => arg 5; simp [pick]
  iterate 6 go_big_quiet_step (fail)
  refine wpQuiet_value rfl (fun y => exec_look_ok _ _ rfl ba DA rfl y.h.2.2 p.nm rfl hl i j true hat hhas) ?_
  conv => arg 6; simp only [Act.put, List.setIfInBounds_toArray, List.set_cons_zero, List.set_cons_succ]
  iterate 3 go_big_quiet_step (fail)
  refine wpQuiet_nil ?_
  refine wpK_step 10 (by kernel_rfl) rfl ?_
  go_wp2
  refine stepQ.mk ⟨fun _ => hS.below ((Below.refl _ _).alloc (Nat.le_refl _) _), ?_⟩
  refine wpK_step 11 (by kernel_rfl) rfl ?_
  go_wp2
  refine stepQ.mk ⟨fun _ => hS.below ((Below.refl _ w1.drew).alloc (Nat.le_refl _) (.cells #[.int .i64 i, .int .i64 j] 57)), ?_⟩
  refine wpK_seq [12] _ _ _ (by kernel_rfl) ?_
  conv => arg 4; simp [pick]
  go_wp2
  go_ret2
  exact ⟨rfl, (hb2.drew.alloc (by have := hb2.size; simpa using this) _)⟩
theorem moreB_trans {S : Nat → Prop} {a b c : World} (hs : a.heap.size ≤ b.heap.size) (hs2 : b.heap.size ≤ c.heap.size) : ∀ k, k < c.heap.size → moreB S b c k → moreB S a c k := fun k _ h => by
  rcases h with h | h
  · exact .inl h
  · exact .inr ⟨Nat.le_trans hs h.1, h.2⟩
set_option maxHeartbeats 1000000 in
set_option maxRecDepth 100000 in
theorem open_new (h : St w S g (fM P) v n) (hin : In w S) (hg : Good P) (p : Am) (hl : p.nm.length ≤ maxLen) (hm : p.am ≤ 9223372036854775807) (he : ¬ (chk p.nm = false ∨ p.am < 0)) (hi : inM P p.nm = false) (hn : n < maxLen) :
    Calls Tryz.prog 16 #[.pointer (some ⟨g, 0, none⟩), .agg #[.string (str p.nm), .int .i64 p.am], .int .i64 (totM P)] w fun e w' =>
      e = .returned (.tuple #[.int .i64 (if oneE P p = 0 then totM P + p.am else 0), .int .i64 (oneE P p)]) ∧ St w' (moreB S w w') g (fM (P ++ [p])) v (n + 1) ∧ Turn S w w' := by
  have hcn := fun w => c_name p.nm w (by unfold maxLen at hl; omega)
  have hc : chk p.nm = true := by cases hx : chk p.nm with
    | true => rfl
    | false => exact absurd (.inl hx) he
  rw [hc] at hcn
  have h0 : ¬ p.am < 0 := fun h => he (.inr h)
  have htl := hg.tot
  have htm := hg.low
  have hadd := fun w => L1.add_any (totM P) p.am w (by omega) (by omega) (by omega) (by omega)
  rw [val_sum hg he hi, ← oneE_sum hg he hi] at hadd
  unfold L1.two at hadd
  obtain ⟨r1, hr1⟩ : ∃ r, r = if oneE P p = 0 then totM P + p.am else 0 := ⟨_, rfl⟩
  obtain ⟨r2, hr2⟩ : ∃ r, r = oneE P p := ⟨_, rfl⟩
  obtain ⟨tt, htt⟩ : ∃ r, r = totM P := ⟨_, rfl⟩
  rw [← hr1, ← hr2, ← htt] at hadd ⊢
  have hsz := name_size hc
  have hz : fM P p.nm = none := by unfold fM; rw [if_neg (by rw [hi]; decide)]
  have hz1 : amt (fM P) p.nm = 0 := by unfold amt; rw [hz]; rfl
  have hz2 : nnc (fM P) p.nm = 0 := by unfold nnc; rw [hz]; rfl
  have HS := Lib.hid h
  obtain ⟨ba, bv, DA, DV, hblk, hA, hV, h1, h2, h3, h4, h5, h6⟩ := h
  have hat := h1.acc hl
  rw [hz1, hz2] at hat
  have hhas : Maps.has DA (.string p.nm) = false := by have := (h1 p.nm hl).1; rw [hz] at this; exact this
  have HSN := Lib.hid (fM_snoc hi)
  have hwr : wrap64 (0 + p.am) = 0 + p.am := by rw [Int.zero_add]; exact IntWalk.wrap64_in _ ⟨by omega, by omega⟩
  have hwr0 : wrap64 (0 + 0) = 0 + 0 := IntWalk.wrap64_in _ ⟨by omega, by omega⟩
  have HAD := Lib.hid (fun (W : World) (h : St W S g (fM P) v n) => by
    have := add_any h p.nm p.am 0 (by omega) hn (by rw [hz1]; exact hwr) (by rw [hz2]; exact hwr0)
    rw [hz1, hz2, Int.zero_add, Int.zero_add] at this
    exact this)
  clear h1 hr1 hr2 htt hz hz1 hz2 hwr hwr0 htl htm hsz
  have hb0 : Below w.heap.size w (w.alloc (.cells #[.string (str p.nm), .int .i64 p.am] 45)) := (Below.refl _ _).alloc (Nat.le_refl _) _
  have hbk : Blk (w.alloc (.cells #[.string (str p.nm), .int .i64 p.am] 45)) w.heap.size 45 #[.string (str p.nm), .int .i64 p.am] := Blk.new _ _ _
  go_enter Tryz.func16, Tryz.ntmps16
  go_wp2_with (first
    | (go_at_call 44; refine (hcn _).mono ?_; rintro e w1 ⟨rfl, hb1⟩; have c1 := (hb1.cell (p := ⟨w.heap.size, 1, none⟩) (by simp)).trans (hbk.cell 1))
    | go_in)
  have hb2 := L6.nxt hb0 hb1 hb0.size
  have hbk1 : Blk w1 w.heap.size 45 #[.string (str p.nm), .int .i64 p.am] := hbk.below hb1 (by simp)
  have hS : holdO g ba w.heap.size p DA n w1.drew := ⟨(hb2.cell (p := ⟨g, 0, none⟩) hblk.lt).trans (hblk.cell 0), hbk1.cell 0, L6.Turn.map (S := fun _ => False) (L6.Turn.of_keep hb2).drew hA (fun h => h)⟩
  refine wp_region_K (holdO g ba w.heap.size p DA n) [0, 1, 2, 3, 4, 5, 6, 7, 8, 9] (by kernel_rfl) ?_
  refine wpK_quiet (f := 3) (by kernel_rfl) (fun _ x _ _ _ h => by cases x <;> exact h) hS [0, 1, 2, 3, 4, 5, 6, 7, 8, 9] _ _ (by kernel_rfl) (by kernel_rfl) (by kernel_rfl) ?_
  have ne : Nonempty (WorldIn (holdO g ba w.heap.size p DA n)) := ⟨⟨_, hS⟩⟩
  have q0 := fun y : WorldIn (holdO g ba w.heap.size p DA n) => y.h.1
  have q1 := fun y : WorldIn (holdO g ba w.heap.size p DA n) => y.h.2.1
  conv => arg 5; simp [pick]
  iterate 6 go_big_quiet_step (fail)
  refine wpQuiet_value rfl (fun y => exec_look_ok _ _ rfl ba DA rfl y.h.2.2 p.nm rfl hl 0 0 false hat hhas) ?_
  conv => arg 6; simp only [Act.put, List.setIfInBounds_toArray, List.set_cons_zero, List.set_cons_succ]
  iterate 3 go_big_quiet_step (fail)
  refine wpQuiet_nil ?_
  refine wpK_step 10 (by kernel_rfl) rfl ?_
  go_wp2
  refine stepQ.mk ⟨fun _ => hS.below ((Below.refl _ _).alloc (Nat.le_refl _) _), ?_⟩
  refine wpK_step 11 (by kernel_rfl) rfl ?_
  go_wp2
  refine stepQ.mk ⟨fun _ => hS.below ((Below.refl _ w1.drew).alloc (Nat.le_refl _) (.cells #[.int .i64 0, .int .i64 0] 57)), ?_⟩
  refine wpK_seq [12] _ _ _ (by kernel_rfl) ?_
  conv => arg 4; simp [pick]
  have hb3 : Below w.heap.size w ((w1.alloc (.cells #[.int .i64 0, .int .i64 0] 57)).drew) := (hb2.alloc hb2.size _).drew
  have hbk3 : Blk ((w1.alloc (.cells #[.int .i64 0, .int .i64 0] 57)).drew) w.heap.size 45 #[.string (str p.nm), .int .i64 p.am] := hbk1.alloc _
  have d0 := hbk3.cell 0
  have d1 := hbk3.cell 1
  have HC := Lib.hid (HAD.out _ (HS.out.below hb3))
  go_wp2_with (first
    | (go_at_call 27; refine HC.out.mono ?_; rintro e w4 ⟨rfl, hst4, ht4⟩
       have d1' : w4.cell? ⟨w.heap.size, 1, none⟩ = some (.int .i64 p.am) := ht4.cell d1 (fun h => by have := hin _ h; exact absurd this (Nat.lt_irrefl _)))
    | (go_at_call 45; refine (hadd _).mono ?_; rintro e w5 ⟨rfl, rfl⟩)
    | go_in)
  go_ret2
  exact ⟨rfl, (HSN.out ▸ hst4).mono (fun k hk h => moreB_trans hb3.size ht4.size k hk h), (L6.Turn.of_keep hb3).trans ht4 (fun i h => .inl h)⟩
end
end Go.Proofs.YthkgadjiiapfgaaGreatDoor
