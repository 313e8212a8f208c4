/-
  What hangs at a number, gathered: the blocks by their parents, then a list of what is still to be done.
-/
import Derived.Test.YtgclofemhhhepaaKids
import Derived.Laws.AppendOwn
set_option linter.unusedSimpArgs false
set_option linter.unusedVariables false
set_option maxRecDepth 10000
namespace Go.Proofs.Ytgclofemhhhepaa
open Go.RowKit Go.Maps Go.Lib
open L3 (Blk Reads)
open L6 (Turn moreB fresh From In)

/-- What was gathered of the blocks gone through. -/
def KidL (L : List Ent) (left : Lit → Bool) (x k : Int) : Prop := inI k ∧ ∃ y, inF L k = some y ∧ y.p = x ∧ left (keyI k) = false
theorem kidL_start {L : List Ent} {D : DataW Unit} (h : FitsI blD D (inF L)) {x k : Int} : ¬ KidL L (Maps.has D) x k := by
  rintro ⟨hk, y, hy, _, hl⟩
  rw [(h k hk).1, hy] at hl
  cases hl
theorem kidL_step {L : List Ent} {left : Lit → Bool} {k : Int} {c : Bl} (hk : inI k) (ho : inF L k = some c) {x z : Int} :
    KidL L (fun a => left a && !a.sameKey (keyI k)) x z ↔ KidL L left x z ∨ (c.p = x ∧ z = k) := by
  constructor
  · rintro ⟨hz, y, hy, hp, hl⟩
    rcases left_step.1 hl with hl | rfl
    · exact .inl ⟨hz, y, hy, hp, hl⟩
    · rw [ho] at hy
      injection hy with hy
      exact .inr ⟨by rw [hy]; exact hp, rfl⟩
  · rintro (⟨hz, y, hy, hp, hl⟩ | ⟨hp, rfl⟩)
    · exact ⟨hz, y, hy, hp, left_step.2 (.inl hl)⟩
    · exact ⟨hk, c, ho, hp, left_step.2 (.inr rfl)⟩
theorem kidL_end {L : List Ent} {left : Lit → Bool} (h1 : (L.map (·.n)).Nodup) (hn : ∀ e ∈ L, inI e.n) (hl : ∀ kl, left kl = false) {x k : Int} : KidL L left x k ↔ Kid L x k := by
  constructor
  · rintro ⟨hk, y, hy, hp, _⟩
    obtain ⟨e, he, h2, h3, h4⟩ := (inF_iff h1).1 hy
    exact ⟨e, he, h2, by rw [← hp, ← h4], h3⟩
  · rintro ⟨e, he, rfl, hp, hi⟩
    exact ⟨hn e he, e.b, (inF_iff h1).2 ⟨e, he, rfl, hi, rfl⟩, hp, hl _⟩
/-- What holds of a round: what is still to come, the lists so far. -/
def KidAt (L : List Ent) (bb bc r base N : Nat) (DB : DataW Unit) (w wr : World) : Prop :=
  ∃ left cnt m V F, wr.ranges Try.prog 3 blElem bb r N DB left cnt ∧ KMap wr bc m V ∧ KRow wr base V F ∧ m + cnt ≤ N ∧ (∀ x, inI x → (F x).Nodup ∧ ∀ k, k ∈ F x ↔ KidL L left x k) ∧ Below w.heap.size w wr ∧ base ≤ wr.heap.size
theorem not_late {b : Bool} {p : Prop} (h0 : b = true) (h : b = false) : p := by rw [h0] at h; cases h
/-- What the store within a round meets. -/
def PutAt (w0 : World) (bc x m : Nat) (c : Bl) (V : Int → Value) (W : World) : Prop := W.cell? ⟨x, 5, none⟩ = some (.int .i64 c.p) ∧ KMap W bc m V
theorem PutAt.drew {w0 W : World} {bc x m : Nat} {c : Bl} {V : Int → Value} (h : PutAt w0 bc x m c V W) : PutAt w0 bc x m c V W.drew := ⟨h.1, h.2.drew⟩
theorem PutAt.below {w0 W W' : World} {bc x m : Nat} {c : Bl} {V : Int → Value} (h : PutAt w0 bc x m c V W) (hb : Below W.heap.size W W') : PutAt w0 bc x m c V W' :=
  ⟨(hb.cell (p := ⟨x, 5, none⟩) (World.block_lt_of_cell? _ _ h.1)).trans h.1, h.2.turn (S := fun _ => False) (L6.Turn.of_keep hb) (fun h => h)⟩
/-- The first of a list's numbers. -/
theorem own_take {w : World} {base g c lt : Nat} {l : List Int} (h : OwnI w base (.slice (some ⟨g, 0, none⟩) (lt + 1) c) l) (hl : l.length = lt + 1) : OwnI w base (.slice (some ⟨g, 0, none⟩) lt c) (l.take lt) := by
  obtain ⟨h1, h2⟩ := h
  have e1 : (l.take lt).length = lt := by rw [List.length_take]; omega
  unfold OwnI
  rw [e1]
  refine ⟨by rw [List.length_map, e1]; omega, .inr ?_⟩
  rcases h2 with ⟨h2, _⟩ | ⟨g2, cap, cur, h2, hb, hh, h3, h4, h5, h6⟩
  · cases h2
  · injection h2 with e2 e3 e4
    injection e2 with e2
    injection e2 with e2
    subst e2 e4
    refine ⟨g, c, cur, rfl, hb, hh, by omega, h4, h5, ?_⟩
    rw [List.map_take, ← h6, List.take_take]
    congr 1
    omega
/-- How many entries a map has, off the world. -/
def mapLen (b : Nat) (w : World) : Nat := match w.heap[b]? with | some (.map es _) => es.size | _ => 0
theorem mapLen_is {w : World} {b m : Nat} {D : DataW Unit} (h : w.ownsMap Try.prog 3 blElem b m D) : mapLen b w = Maps.size D := by
  obtain ⟨es, clock, hb, F, hs, rfl⟩ := h
  unfold mapLen
  rw [hb]
  simp [Maps.size, DataW.length_sorted]
/-- What is kept so far. -/
def keptF (L : List Ent) (K : List Int) (x : Int) : Option Bl := if x ∈ K then inF L x else none
theorem kept_len {w : World} {b m : Nat} {D : DataW Unit} {L : List Ent} {K : List Int} (h : w.ownsMap Try.prog 3 blElem b m D) (hf : FitsI blD D (keptF L K)) (h1 : OneN 0 L ∨ True) (hd : (L.map (·.n)).Nodup) (hK : K.Nodup) (hi : ∀ k ∈ K, inI k ∧ ∃ y, inF L k = some y) : mapLen b w = K.length := by
  obtain ⟨q1, q2, q3, q4⟩ := keys_of h hf
  rw [mapLen_is h, ← q3]
  refine Nat.le_antisymm (len_sub q1 fun x hx => ?_) (len_sub hK fun x hx => ?_)
  · have := (q4 x (q2 x hx)).1 hx
    unfold keptF at this
    by_cases c : x ∈ K
    · exact c
    · rw [if_neg c] at this; cases this
  · obtain ⟨hxi, y, hy⟩ := hi x hx
    refine (q4 x hxi).2 ?_
    unfold keptF
    rw [if_pos hx, hy]
    rfl
theorem own_ne_map {w : World} {base b m : Nat} {v : Value} {l : List Int} {D : DataW Unit} (h : OwnI w base v l) (hm : w.ownsMap Try.prog 3 blElem b m D) : ¬ v.ownBlock = some b := fun hv => by
  obtain ⟨es, cl, hb, _⟩ := hm
  rcases h.2 with ⟨rfl, _⟩ | ⟨g, cap, cur, rfl, _, hg, _⟩
  · cases hv
  · injection hv with hv
    have hv' : g = b := hv
    rw [hv', hb] at hg
    cases hg
def LookAt (bc m : Nat) (V : Int → Value) (W : World) : Prop := KMap W bc m V
/-- What holds of a round of the second loop: the list of what is still to be done, what is kept. -/
structure TodoAt (L : List Ent) (r n : Int) (bc bk base m : Nat) (V : Int → Value) (F : Int → List Int) (w : World) (v : Value) (T K : List Int) (wr : World) : Prop where
  own : OwnI wr base v T
  map : KMap wr bc m V
  rows : ∀ x, inI x → x ≠ n → OwnI wr base (V x) (F x) ∧ ((V x).ownBlock = none ∨ (V x).ownBlock ≠ v.ownBlock)
  abv : Abv r L n T K
  kept : ∃ D, wr.ownsMap Try.prog 3 blElem bk K.length D ∧ FitsI blD D (keptF L K)
  below : Below w.heap.size w wr
set_option maxHeartbeats 4000000 in
set_option maxRecDepth 100000 in
theorem above_any {w : World} {g bb : Nat} {n r : Int} {L : List Ent} {DB : DataW Unit} (hc3 : w.cell? ⟨g, 3, none⟩ = some (.map (some bb))) (hown : w.ownsMap Try.prog 3 blElem bb L.length DB) (hfit : FitsI blD DB (inF L))
    (h1 : OneN r L) (h0 : InOk r L) (hn : ∀ e ∈ L, inI e.n) (hb : ∀ e ∈ L, e.b.wf) (hl : L.length ≤ 100000) (hh : Hang r L n) (hni : inI n) :
    Calls Try.prog 30 #[.pointer (some ⟨g, 0, none⟩), .int .i64 n] w fun e w' => ∃ (bk : Nat) (K : List Int) (D : DataW Unit) (m : Nat), e = .returned (.map (some bk)) ∧ w.heap.size ≤ bk ∧ w'.ownsMap Try.prog 3 blElem bk m D ∧
      FitsI blD D (fun x => if x ∈ K then inF L x else none) ∧ K.Nodup ∧ (∀ k, k ∈ K ↔ Under r L n k) ∧ Below w.heap.size w w' := by
  have hmm := @run_makeMap Try.prog
  obtain ⟨i0, hi, hz0, hz1, hz2⟩ := info_parts intInfo
  have hb1 : Below w.heap.size w (w.alloc (.map #[] 0)) := (Below.refl _ _).alloc (Nat.le_refl _) _
  have hk1 := kmap_made w
  have hbb := hown.lt
  have hown' := L6.Turn.map (S := fun _ => False) (L6.Turn.of_keep hb1) hown (fun h => h)
  have c3 := (hb1.cell (p := ⟨g, 3, none⟩) (World.block_lt_of_cell? _ _ hc3)).trans hc3
  have HC3 := Lib.hid hc3
  have HOWN := Lib.hid hown
  have HF := Lib.hid hfit
  obtain ⟨w1, hw1⟩ : ∃ w1, w1 = w.alloc (.map #[] 0) := ⟨_, rfl⟩
  have hs1 : w1.heap.size = w.heap.size + 1 := by rw [hw1]; simp
  have HS1 := Lib.hid hs1
  rw [← hw1] at hb1 hk1 hown' c3
  clear hc3 hown hfit
  go_enter Try.func30, Try.ntmps30
  go_upto_region 2 with fail
  rw [← hw1]
  clear hw1 hs1
  go_wp2_with (first
    | (at_range; refine wpList_range_own _ rfl _ 64 rfl 3 39 kdI Try.underlying64 blElem bb L.length DB rfl hown' ?_; intro w2 hrg2 hg2 hs2)
    | go_in)
  go_frame
  have hsz := hown'.size_le
  have hstart : KidAt L bb w.heap.size w1.heap.size (w1.heap.size + 1) L.length DB w w2 :=
    ⟨_, _, 0, (fun _ => nilV), (fun _ => []), hrg2, hk1.turn (S := fun _ => False) (L6.Turn.of_grown hg2 (fun i h => by cases h)) (fun h => h), krow_nil _ _, by omega, fun x hx => ⟨List.nodup_nil, fun k => ⟨fun h => (by cases h), fun h => absurd h (kidL_start HF.out)⟩⟩, hb1.grown hg2 hb1.size (fun j hj => by cases hj), by rw [hs2]; exact Nat.le_refl _⟩
  clear hrg2 hg2 hs2 hk1 c3 hown'
  go_loopw [6] (fun _ wr => KidAt L bb w.heap.size w1.heap.size (w1.heap.size + 1) L.length DB w wr) (fun _ wr => wr.rangeLeft bb w1.heap.size)
  case atStart => exact hstart
  case round =>
    clear hstart hsz
    obtain ⟨left, cnt, m, V, F, hrg, hK, hR, hm, hD, hbw, hbs⟩ := hrel
    go_wp2_with (first
      | (at_next; refine wpList_next_ranges _ rfl _ rfl 3 kdI blElem (Value.int .i64) (fun b : Bl => .agg (blC b)) (fun key kl h => by obtain ⟨x, hx, _⟩ := Maps.keyOf_int_inv Try.underlying3 h; exact ⟨x, hx⟩) (fun v y h => by obtain ⟨b, hb, _⟩ := blElem_inv h; exact ⟨b, hb⟩) bb w1.heap.size _ _ _ _ rfl hrg ?_ ?_)
      | go_in)
    · intro hc0 hl0
      have HFK := Lib.hid (fun x (hx : inI x) => (⟨(hD x hx).1, fun k => ((hD x hx).2 k).trans (kidL_end h1.1 hn hl0)⟩ : (F x).Nodup ∧ ∀ k, k ∈ F x ↔ Kid L x k))
      have hbk : Below wr.heap.size wr (wr.alloc (.map #[] 0)) := (Below.refl _ _).alloc (Nat.le_refl _) _
      have hK2 : KMap (wr.alloc (.map #[] 0)) w.heap.size m V := hK.turn (S := fun _ => False) (L6.Turn.of_keep hbk) (fun h => h)
      have hR2 := hR.below hbk
      have hkept : (wr.alloc (.map #[] 0)).ownsMap Try.prog 3 blElem wr.heap.size 0 (.map []) := World.ownsMap_made wr _ _ _
      obtain ⟨w2, hw2⟩ : ∃ w2, w2 = wr.alloc (.map #[] 0) := ⟨_, rfl⟩
      rw [← hw2] at hbk hK2 hR2 hkept
      have hst : TodoAt L r n w.heap.size wr.heap.size (w1.heap.size + 1) m V F w (V n) (F n) [] w2 := ⟨hR2.row n hni, hK2, fun x hx hne => ⟨hR2.row x hx, hR2.apart x n hx hni hne⟩, abv_start hh (HFK.out n hni).1 (HFK.out n hni).2, ⟨.map [], hkept, fun x hx => ⟨rfl, fun y h => by cases h⟩⟩, hbw.trans (hbk.mono hbw.size)⟩
      have hlook := hK2.look hni
      have hbkw : w.heap.size < wr.heap.size := by have := HS1.out; omega
      clear hrg hK hR hD hl0 hc0 hbk hR2 hkept hm hbw hbs hK2
      go_upto_region 7 with fail
      rw [← hw2]
      clear hw2
      obtain ⟨bk, hbk⟩ : ∃ bk, bk = wr.heap.size := ⟨_, rfl⟩
      rw [← hbk] at hst hbkw ⊢
      clear hbk
      go_wp2
      clear hlook
      go_loopw [9] (fun v wr => ∃ T K, TodoAt L r n w.heap.size bk (w1.heap.size + 1) m V F w v T K wr) (fun _ wr => L.length - mapLen bk wr)
      case atStart => exact ⟨_, _, hst⟩
      case round =>
        clear hst
        obtain ⟨T, K, hT⟩ := hrel
        by_cases hemp : T = []
        · subst hemp
          obtain ⟨ho, hK, hR, hA, ⟨D, hk1, hk2⟩, hbw⟩ := hT
          obtain ⟨A, cc, rfl, _, _⟩ := OwnI.see ho
          have HE := Lib.hid (show w.heap.size ≤ bk ∧ wr.ownsMap Try.prog 3 blElem bk K.length D ∧ FitsI blD D (fun x => if x ∈ K then inF L x else none) ∧ K.Nodup ∧ (∀ k, k ∈ K ↔ Under r L n k) ∧ Below w.heap.size w wr from
            ⟨Nat.le_of_lt hbkw, hk1, hk2, by simpa using hA.nd, abv_end h1 h0 hA, hbw⟩)
          clear ho hK hR hA hk1 hk2 hbw
          go_wp2
          go_ret
          exact ⟨bk, K, D, K.length, rfl, HE.out⟩
        · obtain ⟨T0, k, rfl⟩ : ∃ T0 k, T = T0 ++ [k] := ⟨T.dropLast, T.getLast hemp, (List.dropLast_concat_getLast hemp).symm⟩
          obtain ⟨ho, hK, hR, hA, ⟨D, hk1, hk2⟩, hbw⟩ := hT
          obtain ⟨lt, hlt⟩ : ∃ lt, lt = T0.length := ⟨_, rfl⟩
          have hTl : (T0 ++ [k]).length = lt + 1 := by simp [hlt]
          have hTm : ∀ x ∈ T0 ++ [k], x ∈ L.map (·.n) := fun x hx => by
            obtain ⟨_, ⟨e, he, h2, _⟩, _⟩ := hA.kid x (List.mem_append_left _ hx)
            exact List.mem_map.2 ⟨e, he, h2⟩
          have hltb : lt ≤ 100000 := by
            have := len_sub (List.nodup_append.1 hA.nd).1 hTm
            rw [hTl, List.length_map] at this
            omega
          obtain ⟨gv, cap, rfl, hlc, hbg⟩ : ∃ gv cap, u9 = .slice (some ⟨gv, 0, none⟩) (lt + 1) cap ∧ lt + 1 ≤ cap ∧ bk ≠ gv := by
            rcases ho.2 with ⟨_, h0⟩ | ⟨gv, cap, cur, hv, _, hgc, hc, _⟩
            · rw [hTl] at h0; omega
            · rw [hTl] at hv hc
              refine ⟨gv, cap, hv, hc, fun h => ?_⟩
              obtain ⟨es, cl, hb5, _⟩ := hk1
              rw [h, hgc] at hb5
              cases hb5
          have hkn : k ≠ n := under_ne h1 (hA.un k (by simp))
          obtain ⟨e, he, hen, hei⟩ : ∃ e ∈ L, e.n = k ∧ e.isin = true := by
            obtain ⟨_, ⟨e, he, h2, _, h3⟩, _⟩ := hA.kid k (by simp)
            exact ⟨e, he, h2, h3⟩
          have hki : inI k := by rw [← hen]; exact hn e he
          have hky : inF L k = some e.b := (inF_iff h1.1).2 ⟨e, he, hen, hei, rfl⟩
          obtain ⟨hRk, hap⟩ := hR k hki hkn
          obtain ⟨Ak, ck, hVk, hck, hrd⟩ := OwnI.see hRk
          have ht0 : OwnI wr (w1.heap.size + 1) (.slice (some ⟨gv, 0, none⟩) lt cap) T0 := by
            have := own_take ho hTl
            rw [hlt, List.take_left' rfl] at this
            rw [hlt]; exact this
          have c9 : wr.cell? ⟨gv, lt, none⟩ = some (.int .i64 k) := by
            have ho2 := ho
            unfold OwnI at ho2
            rw [hTl] at ho2
            rw [World.ownsRow.cellAt ho2 lt (by omega), List.getElem?_map, hlt, List.getElem?_append_right (Nat.le_refl _)]
            simp
          have hS : LookAt w.heap.size m V wr.drew := hK.drew
          have HTL := Lib.hid hTl
          have HTM := Lib.hid hTm
          have HLt := Lib.hid hlt
          have HVK := Lib.hid hVk
          have HA := Lib.hid hA
          have HKY := Lib.hid hky
          have hlF : (F k).length ≤ 100000 := by
            have := len_sub (l := F k) (m := L.map (·.n)) (HFK.out k hki).1 (fun x hx => by
              obtain ⟨e2, he2, h2, _⟩ := ((HFK.out k hki).2 x).1 hx
              exact List.mem_map.2 ⟨e2, he2, h2⟩)
            rw [List.length_map] at this
            omega
          have HN := Lib.hid (HFK.out k hki).1
          clear hTl hTm hlt hVk hA hky hemp hen he hei
          go_upto_region 10 with fail
          clear c9
          refine wp_region_K (LookAt w.heap.size m V) [0, 1, 5, 6, 7] (by kernel_rfl) ?_
          refine wpK_quiet (f := 5) (by kernel_rfl) (fun _ x _ _ _ h => by cases x <;> exact h) hS [0, 1, 5, 6, 7] _ _ (by kernel_rfl) (by kernel_rfl) (by kernel_rfl) ?_
          have ne : Nonempty (WorldIn (LookAt w.heap.size m V)) := ⟨⟨_, hS⟩⟩
          conv => arg 5; simp [pick]
          iterate 4 go_big_quiet_step (fail)
          refine wpQuiet_value rfl (fun z => exec_kid _ _ rfl w.heap.size rfl z.h k rfl hki) ?_
          conv => arg 6; simp only [Act.put, List.setIfInBounds_toArray, List.set_cons_zero, List.set_cons_succ]
          refine wpQuiet_nil ?_
          refine wpK_step 2 (by kernel_rfl) rfl ?_
          go_wp2
          refine stepQ.mk ⟨fun _ => hS, ?_⟩
          refine wpK_step 3 (by kernel_rfl) rfl ?_
          go_wp2
          refine stepQ.mk ⟨fun _ => hS, ?_⟩
          refine wpK_step 4 (by kernel_rfl) rfl ?_
          go_wp2
          refine stepQ.mk ⟨fun _ => hS, ?_⟩
          refine wpK_step 8 (by kernel_rfl) rfl ?_
          have ht0' : OwnI wr.drew (w1.heap.size + 1) (.slice (some ⟨gv, 0, none⟩) lt cap) T0 := ht0
          have HT0 := Lib.hid ht0
          have hgl := World.ownsRow.lt ht0 gv rfl
          have hbs : w1.heap.size + 1 ≤ wr.drew.heap.size := by show w1.heap.size + 1 ≤ wr.heap.size; omega
          have hrd' : Reads wr.drew wr.drew.heap.size 1 Ak (F k).length ((F k).map (Value.int .i64)) := hrd.below (((Below.refl _ wr)).drew)
          unfold OwnI at ht0'
          rw [← HLt.out] at ht0'
          go_wp2_with (refine L3.wpList_append_any _ rfl _ _ 50 rfl (w1.heap.size + 1) 3 i0 (.int .i64 0) 1 8 Try.underlying50 hi hz0 hz1 hz2 rfl (by decide) (.slice (some ⟨gv, 0, none⟩) lt cap) lt _ rfl ht0' wr.drew.heap.size Ak (F k).length ck _ HVK.out hrd' (ints_oneCell .i64 (F k)) (by unfold maxLen; omega) (by omega) hbs ?_; intro v' w6 ho6 hg6 hloc6; show wpList _ _ _ _ (Act.put _ (some 55) v') w6)
          replace hg6 : wr.drew.grownBy w6 (some gv) := hg6
          replace hloc6 : v'.ownBlock = some gv ∨ v'.ownBlock = some wr.heap.size := hloc6
          have tw6 : Turn (fun j => j = gv) wr w6 := ((L6.Turn.refl _ wr).drew).grown hg6 (fun i h => by cases h; exact .inl rfl)
          have hK6 : KMap w6 w.heap.size m V := hK.turn tw6 (by have := HS1.out; omega)
          refine stepQ.mk ⟨fun _ => hK6, ?_⟩
          refine wpK_seq [9] _ _ _ (by kernel_rfl) ?_
          conv => arg 4; simp [pick]
          have hbw6 : Below w.heap.size w w6 := hbw.drew.grown hg6 (by have := hbw.size; exact this) (fun j hj => by cases hj; have := HS1.out; omega)
          have hc3 : w6.cell? ⟨g, 3, none⟩ = some (.map (some bb)) := (hbw6.cell (p := ⟨g, 3, none⟩) (World.block_lt_of_cell? _ _ HC3.out)).trans HC3.out
          have hDB6 := L6.Turn.map (S := fun _ => False) (L6.Turn.of_keep hbw6) HOWN.out (fun h => h)
          have hk6 := tw6.map hk1 hbg
          obtain ⟨hat, _⟩ := look_in HF.out hki
          rw [HKY.out] at hat
          replace hat : DB.atKey (keyI k) (blD zeroBl) = blD e.b := hat
          have hA2 := abv_step h1 h0 HA.out (HFK.out k hki).1 (HFK.out k hki).2
          have hin : ∀ x ∈ K ++ [k], inI x ∧ ∃ y, inF L x = some y := fun x hx => by
            obtain ⟨_, ⟨e2, he2, h2, _, h3⟩, _⟩ := hA2.kid x (List.mem_append_right _ hx)
            exact ⟨by rw [← h2]; exact hn e2 he2, e2.b, (inF_iff h1.1).2 ⟨e2, he2, h2, h3, rfl⟩⟩
          have hKn2 : (K ++ [k]).Nodup := (List.nodup_append.1 hA2.nd).2.1
          have hKL : K.length + 1 ≤ L.length := by
            have := len_sub (l := K ++ [k]) (m := L.map (·.n)) hKn2 (fun x hx => by
              obtain ⟨_, ⟨e2, he2, h2, _⟩, _⟩ := hA2.kid x (List.mem_append_right _ hx)
              exact List.mem_map.2 ⟨e2, he2, h2⟩)
            rw [List.length_map, List.length_append] at this
            simpa using this
          have hm1 : mapLen bk wr = K.length := kept_len hk1 hk2 (.inr trivial) h1.1 (List.nodup_append.1 hKn2).1 (fun x hx => hin x (List.mem_append_left _ hx))
          have hvb : ¬ v'.ownBlock = some bk := fun h => by
            rcases hloc6 with e1 | e1
            · rw [e1] at h; injection h with h; exact hbg h.symm
            · rw [e1] at h; injection h with h; have := hk1.lt; omega
          have ho6' : OwnI w6 (w1.heap.size + 1) v' (T0 ++ F k) := by
            have e1 : (T0 ++ F k).length = lt + (F k).length := by rw [List.length_append, HLt.out]
            unfold OwnI
            rw [e1, List.map_append]
            exact ho6
          have hrows : ∀ x, inI x → x ≠ n → (OwnI w6 (w1.heap.size + 1) (V x) (F x) ∧ ¬ (V x).ownBlock = some bk) ∧ ((V x).ownBlock = none ∨ (V x).ownBlock ≠ v'.ownBlock) := fun x hx hxn => by
            obtain ⟨q1, q2⟩ := hR x hx hxn
            refine ⟨⟨tw6.row q1 (fun j hj hjg => ?_), own_ne_map q1 hk1⟩, ?_⟩
            · rcases q2 with q2 | q2
              · rw [q2] at hj; cases hj
              · exact q2 (by rw [hj, hjg]; rfl)
            · rcases hloc6 with e1 | e1
              · rw [e1]; exact q2
              · rw [e1]; exact .inr (fun e2 => by have := (World.ownsRow.lt q1 _ e2).2; omega)
          have HR := Lib.hid (fun w7 D7 (hown7 : w7.ownsMap Try.prog 3 blElem bk (K.length + 1) D7) (hg7 : w6.grownBy w7 (some bk)) (hD7 : FitsI blD D7 (keptF L (K ++ [k]))) => (show TodoAt L r n w.heap.size bk (w1.heap.size + 1) m V F w v' (T0 ++ F k) (K ++ [k]) w7 ∧ L.length - mapLen bk w7 < L.length - mapLen bk wr from by
            have t7 : Turn (fun j => j = bk) w6 w7 := L6.Turn.of_grown hg7 (fun i h => by cases h; rfl)
            refine ⟨⟨t7.row ho6' (fun j hj hjb => hvb (hjb ▸ hj)), hK6.turn t7 (by omega), fun x hx hxn => ⟨t7.row (hrows x hx hxn).1.1 (fun j hj hjb => (hrows x hx hxn).1.2 (hjb ▸ hj)), (hrows x hx hxn).2⟩, hA2, ⟨D7, by rw [List.length_append]; exact hown7, hD7⟩, hbw6.grown hg7 (by have := hbw6.size; exact this) (fun j hj => by cases hj; omega)⟩, ?_⟩
            have hm7 : mapLen bk w7 = (K ++ [k]).length := kept_len hown7 hD7 (.inr trivial) h1.1 hKn2 hin
            rw [hm1, hm7, List.length_append]
            simp
            omega))
          have hmD := hk6.isMap
          have HFP := Lib.hid ((FitsI.put hk2 hmD hki e.b).congr (fun z _ => (show (if z = k then some e.b else keptF L K z) = keptF L (K ++ [k]) z from by
            unfold keptF
            by_cases c : z = k
            · subst c; rw [if_pos rfl, if_pos (by simp), HKY.out]
            · rw [if_neg c]; simp [c])))
          clear hS ne ht0' hrd hrd' hRk hA2 hin hKn2 hm1 hvb ho6' hrows hmD hk1 hk2 hR hK6 hK ho ht0 tw6 ho6 hg6 hloc6 hbw hbw6
          go_wp2_with (first
            | (at_lookup; refine wpList_look_bl _ rfl _ _ rfl bb _ DB rfl hDB6 k rfl hki e.b hat ?_)
            | (at_mapUpdate; refine wpList_mapUpdate_own _ rfl _ _ _ 64 rfl 3 39 kdI Try.underlying64 blElem bk K.length D rfl hk6 (by unfold maxLen; omega) _ _ (keyI k) rfl rfl (key_at hki) (blD e.b) [] (blElem_mk e.b) ?_; intro w7 hown7 hg7)
            | go_in)
          have HZ := Lib.hid (HR.out w7 _ hown7 hg7 HFP.out)
          clear hown7 hg7 hk6 hDB6 hc3
          go_frame
          go_roundw
          case rel => exact ⟨_, _, HZ.out.1⟩
          case measure => exact HZ.out.2
    · intro x c kl yd yl w3 cnt3 hkey hlk hRd hat hrg3 hlt hg3 hs3 hen
      obtain ⟨x', ex, rfl, hwx⟩ := Maps.keyOf_int_inv Try.underlying3 hkey
      obtain rfl : x = x' := by injection ex
      have hxi : inI x := wf_inI hwx
      obtain rfl : yd = blD c := by rw [blElem_mk] at hRd; exact (congrArg Prod.fst (Option.some.inj hRd)).symm
      have hoc : inF L x = some c := by
        have hh : Maps.has DB (keyI x) = true := has_true_of_atKey hat
        rw [(HF.out x hxi).1] at hh
        obtain ⟨y, hy⟩ := Option.isSome_iff_exists.1 hh
        have := (HF.out x hxi).2 y hy (.map [])
        rw [hy, blD_inj (this.symm.trans (hat (.map [])))]
      have hpi : inI c.p := by
        obtain ⟨e, he, _, _, h4⟩ := (inF_iff h1.1).1 hoc
        rw [← h4]; exact (hb e he).p
      have ht3 : Turn (fun k => k = w1.heap.size) wr w3 := L6.Turn.of_grown hg3 (fun i h => by cases h; rfl)
      have hK3 := hK.turn ht3 (by have := HS1.out; omega)
      have hR3 := hR.turn ht3 (fun k hk => by rw [hk]; exact Nat.lt_succ_self _)
      have hb3 : Below w.heap.size w w3 := hbw.grown hg3 hbw.size (fun j hj => by cases hj; rw [HS1.out]; omega)
      have hb4 : Below w3.heap.size w3 (w3.alloc (.cells (blC c) 39)) := below_box _ c
      have k4 := box_new w3 39 c
      have hrg4 := hrg3.alloc (.cells (blC c) 39)
      obtain ⟨w4, hw4⟩ : ∃ w4, w4 = w3.alloc (.cells (blC c) 39) := ⟨_, rfl⟩
      rw [← hw4] at hb4 k4 hrg4
      have hNB : ¬ (V c.p).ownBlock = some w3.heap.size := fun h => by have := (World.ownsRow.lt (hR3.row c.p hpi) _ h).2; omega
      have hK4 := hK3.turn (S := fun _ => False) (L6.Turn.of_keep hb4) (fun h => h)
      have hR4 := hR3.below hb4
      have hbs4 : w1.heap.size + 1 ≤ w4.heap.size := by have := ht3.size; have := hb4.size; omega
      have HRO := Lib.hid hrg.left_eq
      have HD := Lib.hid hD
      have HLK := Lib.hid hlk
      have HLT := Lib.hid hlt
      have HST := Lib.hid (fun y z => kidL_step (L := L) (left := left) hxi hoc (x := y) (z := z))
      have hbw4 : Below w.heap.size w w4 := hb3.trans (hb4.mono hb3.size)
      clear hkey hRd hrg3 hrg hs3 hK hR hK3 hR3 hD hat hlk hb3 hbw hbs
      go_upto_region 5 with (first
        | (refine wpList_store_new rfl _ _ _ rfl w3 (blC c) rfl rfl 39 _ blInfo rfl (blC_ones _) ?_)
        | go_in)
      rw [← hw4]
      clear hw4 hen
      have hS0 : PutAt w4 w.heap.size w3.heap.size m c V w4 := ⟨k4.cell 5, hK4⟩
      have hS := hS0.drew
      (try simp only [Act.put])
      refine wp_region_K (PutAt w4 w.heap.size w3.heap.size m c V) [0, 1, 2, 3, 4, 5, 6, 7, 8, 9] (by kernel_rfl) ?_
      refine wpK_quiet (f := 3) (by kernel_rfl) (fun _ x _ _ _ h => by cases x <;> exact h) hS [0, 1, 2, 3, 4, 5, 6, 7, 8, 9] _ _ (by kernel_rfl) (by kernel_rfl) (by kernel_rfl) ?_
      have ne : Nonempty (WorldIn (PutAt w4 w.heap.size w3.heap.size m c V)) := ⟨⟨_, hS⟩⟩
      have r0 := fun z : WorldIn (PutAt w4 w.heap.size w3.heap.size m c V) => z.h.1
      conv => arg 5; simp [pick]
      iterate 8 go_big_quiet_step (fail)
      refine wpQuiet_value rfl (fun z => exec_kid _ _ rfl w.heap.size rfl z.h.2 c.p rfl hpi) ?_
      conv => arg 6; simp only [Act.put, List.setIfInBounds_toArray, List.set_cons_zero, List.set_cons_succ]
      iterate 1 go_big_quiet_step (fail)
      refine wpQuiet_nil ?_
      refine wpK_step 10 (by kernel_rfl) rfl ?_
      go_wp2
      refine stepQ.mk ⟨fun _ => ?_, ?_⟩
      · exact (PutAt.below hS0 ((Below.refl _ w4).alloc (Nat.le_refl _) _)).drew
      have hlenF : (F c.p).length ≤ 100000 := by
        have := len_sub (l := F c.p) (m := L.map (·.n)) (HD.out c.p hpi).1 (fun k hk => by
          obtain ⟨hki, y, hy, _⟩ := ((HD.out c.p hpi).2 k).1 hk
          obtain ⟨e, he, h2, _⟩ := (inF_iff h1.1).1 hy
          exact List.mem_map.2 ⟨e, he, h2⟩)
        rw [List.length_map] at this
        omega
      have ht5 : Turn (fun j => (V c.p).ownBlock = some j) w4 (w4.alloc (.cells #[.int .i64 x] 3)).drew := ((L6.Turn.refl _ w4).alloc _).drew
      have hb5 : Below w4.heap.size w4 (w4.alloc (.cells #[.int .i64 x] 3)).drew := ((Below.refl _ w4).alloc (Nat.le_refl _) _).drew
      have hrow5 : OwnI (w4.alloc (.cells #[.int .i64 x] 3)).drew (w1.heap.size + 1) (V c.p) (F c.p) := (hR4.below hb5).row c.p hpi
      have hcell5 : ∀ (j : Nat) u, ([Value.int .i64 x] : List Value)[j]? = some u → (w4.alloc (.cells #[.int .i64 x] 3)).drew.cell? ((⟨w4.heap.size, 0, none⟩ : Addr).add j) = some u := cell_one_new _ _ _
      have hsz5 : (w4.alloc (.cells #[.int .i64 x] 3)).drew.heap.size = w4.heap.size + 1 := by simp [World.drew]
      have hrg5 := hrg4.kept (grown_of_below hb5) (by simp) (by simp)
      have hS5 : PutAt w4 w.heap.size w3.heap.size m c V (w4.alloc (.cells #[.int .i64 x] 3)).drew := (PutAt.below hS0 ((Below.refl _ w4).alloc (Nat.le_refl _) _)).drew
      obtain ⟨w5, hw5⟩ : ∃ w5, w5 = (w4.alloc (.cells #[.int .i64 x] 3)).drew := ⟨_, rfl⟩
      rw [← hw5] at ht5 hb5 hrow5 hcell5 hsz5 hrg5 hS5 ⊢
      clear hw5 hrg4 hS hS0 r0 ne
      refine wpK_step 11 (by kernel_rfl) rfl ?_
      go_wp2_with (refine wpList_append_own_at _ rfl _ _ 50 rfl (w1.heap.size + 1) 3 i0 (.int .i64 0) 1 8 Try.underlying50 hi hz0 hz1 hz2 rfl (by decide) _ _ _ rfl hrow5 ⟨w4.heap.size, 0, none⟩ 1 1 [.int .i64 x] rfl rfl hcell5 (ints_oneCell .i64 [x]) (by unfold maxLen; omega) (by omega) (by omega) ?_; intro v' w6 ho6 hg6 _ hloc6; show wpList _ _ _ _ (Act.put _ (some 33) v') w6)
      replace hg6 : w5.grownBy w6 (V c.p).ownBlock := hg6
      replace hloc6 : v'.ownBlock = (V c.p).ownBlock ∨ v'.ownBlock = some w5.heap.size := hloc6
      have hK6 : KMap w6 w.heap.size m V := hS5.2.turn (S := fun j => (V c.p).ownBlock = some j) (L6.Turn.of_grown hg6 (fun i h => h.symm ▸ rfl)) (fun h => by have := (World.ownsRow.lt hrow5 _ h).1; have := HS1.out; omega)
      have q6 : w6.cell? ⟨w3.heap.size, 5, none⟩ = some (.int .i64 c.p) := (L6.Turn.of_grown (S := fun j => (V c.p).ownBlock = some j) hg6 (fun i h => h)).cell hS5.1 hNB
      refine stepQ.mk ⟨fun _ => ⟨q6, hK6⟩, ?_⟩
      refine wpK_step 12 (by kernel_rfl) rfl ?_
      obtain ⟨DK, hown6, hv6⟩ := id hK6
      go_wp2_with (refine wpList_mapUpdate_own _ rfl _ _ _ 95 rfl 3 50 kdI Try.underlying95 asIs w.heap.size m DK rfl hown6 (by unfold maxLen; omega) _ _ (keyI c.p) rfl rfl (key_at hpi) (.held v') [] rfl ?_; intro w7 hown7 hg7; show wpList _ _ _ _ (Act.put _ none undef) w7)
      refine stepQ.mk ⟨fun h => not_late (by kernel_rfl) h, ?_⟩
      refine wpK_seq [] _ _ _ (by kernel_rfl) ?_
      conv => arg 4; simp [pick]
      have hm6 := hown6.isMap
      have hK7 : KMap w7 w.heap.size (m + 1) (upd V c.p v') := kmap_put hm6 hv6 hpi hown7
      have ho6' : OwnI w6 (w1.heap.size + 1) v' (F c.p ++ [x]) := by
        have e1 : (F c.p ++ [x]).length = (F c.p).length + 1 := by simp
        have e2 : (F c.p ++ [x]).map (Value.int .i64) = (F c.p).map (Value.int .i64) ++ [.int .i64 x] := by simp
        unfold OwnI
        rw [e1, e2]
        exact ho6
      have hR6 := krow_step hR4 hpi (ht5.grown hg6 (fun i h => .inl h)) ho6' (hloc6.imp id (fun h => ⟨_, h, by omega⟩))
      have hR7 := hR6.turn (S := fun k => k = w.heap.size) (L6.Turn.of_grown hg7 (fun i h => by cases h; rfl)) (fun k hk => by have := HS1.out; omega)
      have hne1 : some bb ≠ (V c.p).ownBlock := fun h => by have := (World.ownsRow.lt hrow5 _ h.symm).1; have := HS1.out; omega
      have hne2 : some w1.heap.size ≠ (V c.p).ownBlock := fun h => by have := (World.ownsRow.lt hrow5 _ h.symm).1; omega
      have hrg6 := hrg5.kept hg6 hne1 hne2
      have hrg7 := hrg6.kept hg7 (by simp; omega) (by simp; have := HS1.out; omega)
      have hbw7 : Below w.heap.size w w7 := ((hbw4.trans (hb5.mono hbw4.size)).grown hg6 (by have := hbw4.size; omega) (fun j hj => by have := (World.ownsRow.lt hrow5 _ hj).1; have := HS1.out; omega)).grown hg7 (by have := hbw4.size; have := hg6.size; omega) (fun j hj => by cases hj; exact Nat.le_refl _)
      have hxF : x ∉ F c.p := fun h => by
        obtain ⟨_, _, _, _, hq⟩ := ((HD.out c.p hpi).2 x).1 h
        have := hq.symm.trans HLK.out
        cases this
      have HRel := Lib.hid (show KidAt L bb w.heap.size w1.heap.size (w1.heap.size + 1) L.length DB w w7 from
        ⟨_, cnt3, m + 1, _, _, hrg7, hK7, hR7, by have := HLT.out; omega, fun y hy => by
          by_cases hyc : y = c.p
          · subst hyc
            rw [upd_same]
            refine ⟨List.nodup_append.2 ⟨(HD.out _ hpi).1, by simp, fun a ha b hb e => hxF (by have e2 : b = x := (by simpa using hb); rw [← e2, ← e]; exact ha)⟩, fun k => ?_⟩
            rw [List.mem_append, (HD.out _ hpi).2 k]
            exact (or_congr Iff.rfl (by simp)).trans (HST.out c.p k).symm
          · rw [upd_other _ _ hyc]
            refine ⟨(HD.out y hy).1, fun k => ((HD.out y hy).2 k).trans ((HST.out y k).trans ⟨fun h => h.elim id (fun h => absurd h.1.symm hyc), .inl⟩).symm⟩, hbw7, by have := hg6.size; have := hg7.size; omega⟩)
      have HRL := Lib.hid (hrg7.left_eq)
      clear hown6 hown7 hv6 hK6 hK7 hR6 hR7 hrg5 hrg6 hrg7 hR4 hK4 hS5 q6 hm6 ho6 ho6' hrow5 hcell5 hg6 hg7 hg3
      (try simp only [Act.put])
      go_frame
      go_roundw
      case rel => exact ⟨_, _, _, _, _, _, _, _, _, _, _, _, _, _, _, _, _, _, _, HRel.out, rfl⟩
      case measure =>
        rw [HRL.out, HRO.out]
        exact HLT.out
end Go.Proofs.Ytgclofemhhhepaa
