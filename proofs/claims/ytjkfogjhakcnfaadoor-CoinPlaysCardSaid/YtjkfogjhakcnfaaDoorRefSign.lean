/-
  The document's register: shares as a list; what each of its calls tells and leaves.
-/
import Derived.Test.YtjkfogjhakcnfaaDoorAll
set_option linter.unusedSimpArgs false
set_option linter.unusedVariables false
namespace Go.Proofs.YtjkfogjhakcnfaaDoor
open Go.RowKit Go.Maps Go.Lib

/-- In w the struct in block r is the document's register of F f, these bad ones, the shares L; all its blocks lie in S. -/
def Rs (w : World) (S : Nat → Prop) (r : Nat) (f : Int) (bad : Nat) (L : List Shr) : Prop :=
  ∃ v, Blk w r 69 #[.int .i64 f, .int .u32 bad, v] ∧ w.ownsRow 0 53 11 v L.length (shrs L) ∧ S r ∧ (∀ k, v.ownBlock = some k → S k)
theorem Rs.lt {w : World} {S : Nat → Prop} {r : Nat} {f : Int} {bad : Nat} {L : List Shr} (h : Rs w S r f bad L) : r < w.heap.size := by obtain ⟨_, hb, _⟩ := h; exact hb.lt
theorem Rs.mono {w : World} {S S' : Nat → Prop} {r : Nat} {f : Int} {bad : Nat} {L : List Shr} (h : Rs w S r f bad L) (hs : ∀ k, k < w.heap.size → S k → S' k) : Rs w S' r f bad L := by
  obtain ⟨v, hb, hr, h1, h3⟩ := h
  exact ⟨v, hb, hr, hs _ hb.lt h1, fun k hk => hs _ (hr.lt k hk).2 (h3 k hk)⟩
theorem Rs.kept {w w' : World} {S T : Nat → Prop} {r : Nat} {f : Int} {bad : Nat} {L : List Shr} (h : Rs w S r f bad L) (ht : Turn T w w') (hd : ∀ k, k < w.heap.size → S k → ¬ T k) : Rs w' S r f bad L := by
  obtain ⟨v, hb, hr, h1, h3⟩ := h
  exact ⟨v, ht.blk hb (hd _ hb.lt h1), ht.row hr (fun k hk => hd _ (hr.lt k hk).2 (h3 k hk)), h1, h3⟩
theorem Rs.below {w w' : World} {S : Nat → Prop} {r : Nat} {f : Int} {bad : Nat} {L : List Shr} (h : Rs w S r f bad L) (hb : Below w.heap.size w w') : Rs w' S r f bad L := h.kept (Turn.of_keep (S := fun _ => False) hb) (fun _ _ _ h => h)

theorem shrs_at {L : List Shr} {k : Nat} (hk : k < L.length) : ∀ j u, (shrL L[k])[j]? = some u → (shrs L)[k * 11 + j]? = some u := by
  intro j u hj
  have hj11 : j < 11 := by
    rcases Nat.lt_or_ge j 11 with h | h
    · exact h
    · rw [List.getElem?_eq_none (by simp [shrL, stmL]; omega)] at hj; cases hj
  have e : shrs L = shrs (L.take k) ++ (shrL L[k] ++ shrs (L.drop (k + 1))) := by
    have := congrArg shrs (List.take_append_drop k L)
    rw [List.drop_eq_getElem_cons hk] at this
    rw [← this]
    simp only [shrs, List.flatMap_append, List.flatMap_cons]
  rw [e, List.getElem?_append_right (by rw [shrs_len, List.length_take]; omega), shrs_len, List.length_take]
  rw [show k * 11 + j - min k L.length * 11 = j by rw [Nat.min_eq_left (by omega)]; omega]
  rw [List.getElem?_append_left (by simp [shrL, stmL]; omega)]
  exact hj
/-- A share of a slice of shares, cell by cell. -/
theorem Reads.shr {w : World} {B : Nat} {A : Option Addr} {L : List Shr} (h : Reads w B 11 A L.length (shrs L)) {k : Nat} (hk : k < L.length) : ∃ ad, A = some ad ∧ ad.block < B ∧ ∀ j u, (shrL L[k])[j]? = some u → w.cell? ((ad.add (k * 11)).add j) = some u := by
  obtain ⟨ad, rfl, hb, hc⟩ := h.2 (by omega)
  exact ⟨ad, rfl, hb, fun j u hj => by rw [add_of_add]; exact hc _ u (shrs_at hk j u hj)⟩

/-- What the reads of a round meet. -/
def holdH (r m k : Nat) (x y : Shr) (n c : Nat) (ad : Addr) (W : World) : Prop :=
  W.cell? ⟨r, 2, none⟩ = some (.slice (some ad) n c) ∧ Blk W m 53 (shrC x) ∧ ∀ j u, (shrL y)[j]? = some u → W.cell? ((ad.add (k * 11)).add j) = some u
set_option maxHeartbeats 1000000 in
set_option maxRecDepth 100000 in
theorem refhasS_any (S : Nat → Prop) (r : Nat) (f : Int) (bad : Nat) (L : List Shr) (x : Shr) (w : World) (h : Rs w S r f bad L) (hx : x.wf) (hL : ∀ y ∈ L, y.wf) (hl : L.length ≤ 1000000000) :
    Calls Tryd.prog 35 #[.pointer (some ⟨r, 0, none⟩), .agg (shrC x)] w fun e w' => e = .returned (.bool (decide (x ∈ L))) ∧ Below w.heap.size w w' := by
  obtain ⟨v, hb, hr, h1, h3⟩ := h
  obtain ⟨A, c, rfl, hc, hrd⟩ := row_reads hr
  have hb0 : Below w.heap.size w (w.alloc (.cells (shrC x) 53)) := (Below.refl _ _).alloc (Nat.le_refl _) _
  go_enter Tryd.func35, Tryd.ntmps35
  go_wp2
  obtain ⟨w1, hw1⟩ : ∃ w1, w1 = w.alloc (.cells (shrC x) 53) := ⟨_, rfl⟩
  have hx1 : Blk w1 w.heap.size 53 (shrC x) := by rw [hw1]; exact Blk.new _ _ _
  have hb1 := hb.alloc (.cells (shrC x) 53)
  have hrd1 := hrd.alloc (Nat.le_refl _) (.cells (shrC x) 53)
  rw [← hw1] at hb0 hb1 hrd1 ⊢
  have hr1 : w.heap.size ≤ w1.heap.size := hb0.size
  clear hb hr hrd hw1 h3
  go_loopw [5] (fun i wr => ∃ k : Nat, i = .int .i64 k ∧ k ≤ L.length ∧ (∀ y ∈ L.take k, y ≠ x) ∧ Below w1.heap.size w1 wr) (fun i _ => L.length - (intOf i).toNat)
  case atStart => exact ⟨0, rfl, Nat.zero_le _, fun y hy => by simp at hy, Below.refl _ _⟩
  case round =>
    obtain ⟨k, rfl, hk, hno, hbr⟩ := hrel
    have hbw := hb0.trans (hbr.mono hr1)
    have hbr2 := hb1.below hbr hb1.lt
    have c2 := hbr2.cell 2
    by_cases hlt : k < L.length
    · obtain ⟨ad, rfl, _, hcl⟩ := (hrd1.below (hbr.mono hr1)).shr hlt
      obtain ⟨y, hy⟩ : ∃ y, y = L[k] := ⟨_, rfl⟩
      have hyw : y.wf := by rw [hy]; exact hL _ (List.getElem_mem hlt)
      have hym : y ∈ L := by rw [hy]; exact List.getElem_mem hlt
      have htk : L.take (k + 1) = L.take k ++ [y] := by rw [hy, List.take_succ_eq_append_getElem hlt]
      rw [← hy] at hcl
      have hxr := hx1.below hbr hx1.lt
      have HT := Lib.hid htk
      have HN := Lib.hid hno
      have HM := Lib.hid hym
      have heq := eqlS hyw hx
      clear hy htk hno hym
      by_cases hyx : y = x
      · rw [decide_eq_true hyx] at heq
        have HE := Lib.hid heq
        have HY := Lib.hid hyx
        clear heq hyx
        go_wp2
        refine wp_region_K (holdH r w.heap.size k x y L.length c ad) [0, 1, 2, 3, 4, 5, 6, 7, 8] (by kernel_rfl) ?_
        refine' wpK_reads (f := 0) (n := 24) _ (by kernel_rfl) (fun _ x _ _ _ h => by cases x <;> exact h) (⟨c2, hxr, hcl⟩ : holdH r w.heap.size k x y L.length c ad wr.drew) [0, 1, 2, 3, 4, 5, 6, 7, 8] _ _ (by kernel_rfl) (by kernel_rfl) (by kernel_rfl) (by rfl) (fun W hW => ?hr) ?hk
        case hr =>
          obtain ⟨q2, qb, qc⟩ := hW
          conv => arg 5; simp [pick]
          repeat (first | still_step | (refine wpStill_load_row rfl _ _ rfl _ rfl _ _ _ _ qb Tryd.underlying53 rfl (by kernel_rfl) ?_) | (refine wpStill_load_cells rfl _ _ rfl _ rfl (shrL y) _ qc Tryd.underlying53 rfl (by kernel_rfl) ?_) | (refine wpStill_binop rfl _ _ _ _ _ rfl (shrC y) (shrC x) rfl rfl (by kernel_rfl) (HE.out W) ?_))
          refine wpStill_nil ?_
          rfl
        refine wpK_seq [] _ _ _ (by kernel_rfl) ?_
        conv => arg 4; simp [pick]
        go_wp2
        go_ret
        exact ⟨by rw [decide_eq_true (HY.out ▸ HM.out)]; rfl, below_drew hbw⟩
      · rw [decide_eq_false hyx] at heq
        have HE := Lib.hid heq
        have HY := Lib.hid hyx
        clear heq hyx
        go_wp2
        refine wp_region_K (holdH r w.heap.size k x y L.length c ad) [0, 1, 2, 3, 4, 5, 6, 7, 8] (by kernel_rfl) ?_
        refine' wpK_reads (f := 0) (n := 24) _ (by kernel_rfl) (fun _ x _ _ _ h => by cases x <;> exact h) (⟨c2, hxr, hcl⟩ : holdH r w.heap.size k x y L.length c ad wr.drew) [0, 1, 2, 3, 4, 5, 6, 7, 8] _ _ (by kernel_rfl) (by kernel_rfl) (by kernel_rfl) (by rfl) (fun W hW => ?hr2) ?hk2
        case hr2 =>
          obtain ⟨q2, qb, qc⟩ := hW
          conv => arg 5; simp [pick]
          repeat (first | still_step | (refine wpStill_load_row rfl _ _ rfl _ rfl _ _ _ _ qb Tryd.underlying53 rfl (by kernel_rfl) ?_) | (refine wpStill_load_cells rfl _ _ rfl _ rfl (shrL y) _ qc Tryd.underlying53 rfl (by kernel_rfl) ?_) | (refine wpStill_binop rfl _ _ _ _ _ rfl (shrC y) (shrC x) rfl rfl (by kernel_rfl) (HE.out W) ?_))
          refine wpStill_nil ?_
          rfl
        refine wpK_seq [] _ _ _ (by kernel_rfl) ?_
        conv => arg 4; simp [pick]
        go_wp2
        go_roundw
        case rel => exact ⟨k + 1, by go_num, by omega, fun z hz => by
          rw [HT.out, List.mem_append] at hz
          rcases hz with hz | hz
          · exact HN.out z hz
          · simp at hz; subst hz; exact HY.out, below_drew hbr⟩
        case measure => simp [intOf]; omega
    · rw [List.take_of_length_le (by omega)] at hno
      have hn : x ∉ L := fun h => hno x h rfl
      have HN := Lib.hid hn
      clear hno hn
      go_wp2_with fail
      go_ret
      exact ⟨by rw [decide_eq_false HN.out]; rfl, hbw⟩

/-- What the reads of the document's question meet. -/
def holdC (r m : Nat) (bad : Nat) (x : Shr) (W : World) : Prop := W.cell? ⟨r, 1, none⟩ = some (.int .u32 bad) ∧ Blk W m 53 (shrC x)
set_option maxHeartbeats 1000000 in
set_option maxRecDepth 100000 in
theorem refcounts_any (S : Nat → Prop) (r : Nat) (f : Int) (bad : Nat) (L : List Shr) (x : Shr) (w : World) (h : Rs w S r f bad L) (hf : inI f) (hbad : bad < 4294967296) (hx : x.wf) (hL : ∀ y ∈ L, y.wf) (hl : L.length ≤ 1000000000) :
    Calls Tryd.prog 43 #[.pointer (some ⟨r, 0, none⟩), .agg (shrC x)] w fun e w' => e = .returned (.int .i64 (cntE f bad L x)) ∧ Below w.heap.size w w' := by
  have HB := Lib.hid h
  obtain ⟨v, hb, hr, h1, h3⟩ := h
  have hb0 : Below w.heap.size w (w.alloc (.cells (shrC x) 53)) := (Below.refl _ _).alloc (Nat.le_refl _) _
  have s0 : (shrC x)[0]? = some (.int .i64 x.k) := rfl
  have ha := fun w => refall_any f w hf.1 hf.2
  obtain ⟨m, hm, hm10⟩ := more_is f
  rw [hm] at ha
  have c0 := (hb.alloc (.cells (shrC x) 53)).cell 0
  have HA := Lib.hid ha
  have HX := Lib.hid hx
  unfold cntE inN
  rw [hm]
  clear ha hr h3 hx hm
  obtain ⟨q, hq⟩ : ∃ q, q = x.k := ⟨_, rfl⟩
  rw [← hq] at s0
  by_cases hk0 : q < 0
  · rw [if_neg (by simp [← hq]; omega)]
    clear hq
    go_enter Tryd.func43, Tryd.ntmps43
    go_wp2
    go_quiet (fail)
    go_wp2
    go_ret
    exact ⟨rfl, below_drewN hb0 _⟩
  · have hk0' : decide (q < 0) = false := by simp; omega
    by_cases hk1 : (m : Int) ≤ q
    · rw [if_neg (by simp [← hq]; omega)]
      clear hq hk0
      go_enter Tryd.func43, Tryd.ntmps43
      go_wp2
      go_quiet ((go_at_call 10; exact quiet_left (HA.out _)))
      go_wp2
      go_ret
      exact ⟨rfl, below_drewN hb0 _⟩
    · rw [if_pos (by simp [← hq]; omega)]
      have hk1' : decide ((m : Int) ≤ q) = false := by simp; omega
      have hh := fun w => refhas_any bad x.k w hbad
      rw [← hq] at hh ⊢
      clear hq hk0 hk1
      rcases Bool.eq_false_or_eq_true (hasV bad q) with hv | hv
      · rw [hv] at hh ⊢
        rw [show (if x ∈ L then (0 : Int) else if true = true then 0 else 60) = 0 by split <;> rfl]
        have HH := Lib.hid hh
        clear hh hv
        go_enter Tryd.func43, Tryd.ntmps43
        go_wp2
        go_quiet ((go_at_call 10; exact quiet_left (HA.out _)))
        go_wp2
        refine name_world (fun w4 hw4 => ?_)
        have hb4 : Below w.heap.size w w4 := by rw [hw4]; exact below_drewN hb0 _
        have c4 : w4.cell? ⟨r, 1, none⟩ = some (.int .u32 bad) := by rw [hw4]; exact (hb.alloc _).cell 1
        have x4 : Blk w4 w.heap.size 53 (shrC x) := by rw [hw4]; exact Blk.new _ _ _
        have R4 := Lib.hid (HB.out.below hb4)
        have hlt4 : w.heap.size < w4.heap.size := x4.lt
        clear hw4 hb
        refine wp_region_K (holdC r w.heap.size bad x) [0, 1, 2, 3, 4, 5, 7, 8, 9, 10, 11] (by kernel_rfl) ?_
        refine' wpK_reads (f := 6) (n := 30) _ (by kernel_rfl) (fun _ x _ _ _ h => by cases x <;> exact h) (⟨c4, x4⟩ : holdC r w.heap.size bad x w4.drew) [0, 1, 2, 3, 4, 5] _ _ (by kernel_rfl) (by kernel_rfl) (by kernel_rfl) (by rfl) (fun W hW => ?hr1) ?hk1
        case hr1 =>
          obtain ⟨q1, qb⟩ := hW
          have q0 := qb.cell 0
          rw [s0] at q0
          conv => arg 5; simp [pick]
          repeat still_step
          refine wpStill_nil ?_
          rfl
        refine wpK_step 6 (by kernel_rfl) rfl ?_
        go_wp2_with (go_at_call 46; refine (HH.out _).mono ?_; rintro e w5 ⟨rfl, hb5'⟩)
        have hb5 := undrew hb5'
        have c5 : w5.cell? ⟨r, 1, none⟩ = some (.int .u32 bad) := (hb5.cell (p := ⟨r, 1, none⟩) (World.block_lt_of_cell? _ _ c4)).trans c4
        have x5 : Blk w5 w.heap.size 53 (shrC x) := x4.below hb5 hlt4
        have hb45 : Below w.heap.size w w5 := hb4.trans (hb5.mono hb4.size)
        refine stepQ.mk ⟨fun _ => ⟨c5, x5⟩, ?_⟩
        refine' wpK_reads (f := 0) (n := 30) _ (by kernel_rfl) (fun _ x _ _ _ h => by cases x <;> exact h) (⟨c5, x5⟩ : holdC r w.heap.size bad x w5) [7, 8, 9, 10, 11] _ _ (by kernel_rfl) (by kernel_rfl) (by kernel_rfl) (by rfl) (fun W hW => ?hr3) ?hk3
        case hr3 =>
          conv => arg 5; simp [pick]
          repeat still_step
          refine wpStill_nil ?_
          rfl
        refine wpK_seq [] _ _ _ (by kernel_rfl) ?_
        conv => arg 4; simp [pick]
        go_wp2
        go_ret
        exact ⟨rfl, hb45⟩
      · rw [hv] at hh ⊢
        rw [if_neg (show ¬ false = true by decide)]
        have HH := Lib.hid hh
        have hhas := fun w5 (hR : Rs w5 S r f bad L) => refhasS_any S r f bad L x w5 hR HX.out hL hl
        clear hh hv
        by_cases hn : x ∈ L
        · rw [decide_eq_true hn] at hhas; rw [if_pos hn]
          have HQ := Lib.hid hhas
          clear hhas hn
          go_enter Tryd.func43, Tryd.ntmps43
          go_wp2
          go_quiet ((go_at_call 10; exact quiet_left (HA.out _)))
          go_wp2
          refine name_world (fun w4 hw4 => ?_)
          have hb4 : Below w.heap.size w w4 := by rw [hw4]; exact below_drewN hb0 _
          have c4 : w4.cell? ⟨r, 1, none⟩ = some (.int .u32 bad) := by rw [hw4]; exact (hb.alloc _).cell 1
          have x4 : Blk w4 w.heap.size 53 (shrC x) := by rw [hw4]; exact Blk.new _ _ _
          have R4 := Lib.hid (HB.out.below hb4)
          have hlt4 : w.heap.size < w4.heap.size := x4.lt
          clear hw4 hb
          refine wp_region_K (holdC r w.heap.size bad x) [0, 1, 2, 3, 4, 5, 7, 8, 9, 11] (by kernel_rfl) ?_
          refine' wpK_reads (f := 6) (n := 30) _ (by kernel_rfl) (fun _ x _ _ _ h => by cases x <;> exact h) (⟨c4, x4⟩ : holdC r w.heap.size bad x w4.drew) [0, 1, 2, 3, 4, 5] _ _ (by kernel_rfl) (by kernel_rfl) (by kernel_rfl) (by rfl) (fun W hW => ?hr4a) ?hk4a
          case hr4a =>
            obtain ⟨q1, qb⟩ := hW
            have q0 := qb.cell 0
            rw [s0] at q0
            conv => arg 5; simp [pick]
            repeat still_step
            refine wpStill_nil ?_
            rfl
          refine wpK_step 6 (by kernel_rfl) rfl ?_
          go_wp2_with (go_at_call 46; refine (HH.out _).mono ?_; rintro e w5 ⟨rfl, hb5'⟩)
          have hb5 := undrew hb5'
          have c5 : w5.cell? ⟨r, 1, none⟩ = some (.int .u32 bad) := (hb5.cell (p := ⟨r, 1, none⟩) (World.block_lt_of_cell? _ _ c4)).trans c4
          have x5 : Blk w5 w.heap.size 53 (shrC x) := x4.below hb5 hlt4
          have hb45 : Below w.heap.size w w5 := hb4.trans (hb5.mono hb4.size)
          refine stepQ.mk ⟨fun _ => ⟨c5, x5⟩, ?_⟩
          refine' wpK_reads (f := 2) (n := 30) _ (by kernel_rfl) (fun _ x _ _ _ h => by cases x <;> exact h) (⟨c5, x5⟩ : holdC r w.heap.size bad x w5) [7, 8, 9] _ _ (by kernel_rfl) (by kernel_rfl) (by kernel_rfl) (by rfl) (fun W hW => ?hr5a) ?hk5a
          case hr5a =>
            obtain ⟨q1, qb⟩ := hW
            conv => arg 5; simp [pick]
            repeat (first | still_step | (refine wpStill_row_at rfl _ _ rfl _ rfl _ _ _ _ qb Tryd.underlying53 rfl (by kernel_rfl) ?_))
            refine wpStill_nil ?_
            rfl
          refine wpK_step 10 (by kernel_rfl) rfl ?_
          go_wp2_with (go_at_call 35; refine (HQ.out _ (R4.out.below hb5)).mono ?_; rintro e w6 ⟨rfl, hb6⟩)
          refine stepQ.mk ⟨fun _ => ⟨(hb6.cell (p := ⟨r, 1, none⟩) (World.block_lt_of_cell? _ _ c5)).trans c5, x5.below hb6 x5.lt⟩, ?_⟩
          have c6 : w6.cell? ⟨r, 1, none⟩ = some (.int .u32 bad) := (hb6.cell (p := ⟨r, 1, none⟩) (World.block_lt_of_cell? _ _ c5)).trans c5
          refine' wpK_reads (f := 0) (n := 30) _ (by kernel_rfl) (fun _ x _ _ _ h => by cases x <;> exact h) (⟨c6, x5.below hb6 x5.lt⟩ : holdC r w.heap.size bad x w6) [11] _ _ (by kernel_rfl) (by kernel_rfl) (by kernel_rfl) (by rfl) (fun W hW => ?hr6a) ?hk6a
          case hr6a =>
            conv => arg 5; simp [pick]
            repeat still_step
            refine wpStill_nil ?_
            rfl
          refine wpK_seq [] _ _ _ (by kernel_rfl) ?_
          conv => arg 4; simp [pick]
          go_wp2
          go_ret
          exact ⟨rfl, hb45.trans (hb6.mono hb45.size)⟩
        · rw [decide_eq_false hn] at hhas; rw [if_neg hn]
          have HQ := Lib.hid hhas
          clear hhas hn
          go_enter Tryd.func43, Tryd.ntmps43
          go_wp2
          go_quiet ((go_at_call 10; exact quiet_left (HA.out _)))
          go_wp2
          refine name_world (fun w4 hw4 => ?_)
          have hb4 : Below w.heap.size w w4 := by rw [hw4]; exact below_drewN hb0 _
          have c4 : w4.cell? ⟨r, 1, none⟩ = some (.int .u32 bad) := by rw [hw4]; exact (hb.alloc _).cell 1
          have x4 : Blk w4 w.heap.size 53 (shrC x) := by rw [hw4]; exact Blk.new _ _ _
          have R4 := Lib.hid (HB.out.below hb4)
          have hlt4 : w.heap.size < w4.heap.size := x4.lt
          clear hw4 hb
          refine wp_region_K (holdC r w.heap.size bad x) [0, 1, 2, 3, 4, 5, 7, 8, 9, 11] (by kernel_rfl) ?_
          refine' wpK_reads (f := 6) (n := 30) _ (by kernel_rfl) (fun _ x _ _ _ h => by cases x <;> exact h) (⟨c4, x4⟩ : holdC r w.heap.size bad x w4.drew) [0, 1, 2, 3, 4, 5] _ _ (by kernel_rfl) (by kernel_rfl) (by kernel_rfl) (by rfl) (fun W hW => ?hr4b) ?hk4b
          case hr4b =>
            obtain ⟨q1, qb⟩ := hW
            have q0 := qb.cell 0
            rw [s0] at q0
            conv => arg 5; simp [pick]
            repeat still_step
            refine wpStill_nil ?_
            rfl
          refine wpK_step 6 (by kernel_rfl) rfl ?_
          go_wp2_with (go_at_call 46; refine (HH.out _).mono ?_; rintro e w5 ⟨rfl, hb5'⟩)
          have hb5 := undrew hb5'
          have c5 : w5.cell? ⟨r, 1, none⟩ = some (.int .u32 bad) := (hb5.cell (p := ⟨r, 1, none⟩) (World.block_lt_of_cell? _ _ c4)).trans c4
          have x5 : Blk w5 w.heap.size 53 (shrC x) := x4.below hb5 hlt4
          have hb45 : Below w.heap.size w w5 := hb4.trans (hb5.mono hb4.size)
          refine stepQ.mk ⟨fun _ => ⟨c5, x5⟩, ?_⟩
          refine' wpK_reads (f := 2) (n := 30) _ (by kernel_rfl) (fun _ x _ _ _ h => by cases x <;> exact h) (⟨c5, x5⟩ : holdC r w.heap.size bad x w5) [7, 8, 9] _ _ (by kernel_rfl) (by kernel_rfl) (by kernel_rfl) (by rfl) (fun W hW => ?hr5b) ?hk5b
          case hr5b =>
            obtain ⟨q1, qb⟩ := hW
            conv => arg 5; simp [pick]
            repeat (first | still_step | (refine wpStill_row_at rfl _ _ rfl _ rfl _ _ _ _ qb Tryd.underlying53 rfl (by kernel_rfl) ?_))
            refine wpStill_nil ?_
            rfl
          refine wpK_step 10 (by kernel_rfl) rfl ?_
          go_wp2_with (go_at_call 35; refine (HQ.out _ (R4.out.below hb5)).mono ?_; rintro e w6 ⟨rfl, hb6⟩)
          refine stepQ.mk ⟨fun _ => ⟨(hb6.cell (p := ⟨r, 1, none⟩) (World.block_lt_of_cell? _ _ c5)).trans c5, x5.below hb6 x5.lt⟩, ?_⟩
          have c6 : w6.cell? ⟨r, 1, none⟩ = some (.int .u32 bad) := (hb6.cell (p := ⟨r, 1, none⟩) (World.block_lt_of_cell? _ _ c5)).trans c5
          refine' wpK_reads (f := 0) (n := 30) _ (by kernel_rfl) (fun _ x _ _ _ h => by cases x <;> exact h) (⟨c6, x5.below hb6 x5.lt⟩ : holdC r w.heap.size bad x w6) [11] _ _ (by kernel_rfl) (by kernel_rfl) (by kernel_rfl) (by rfl) (fun W hW => ?hr6b) ?hk6b
          case hr6b =>
            conv => arg 5; simp [pick]
            repeat still_step
            refine wpStill_nil ?_
            rfl
          refine wpK_seq [] _ _ _ (by kernel_rfl) ?_
          conv => arg 4; simp [pick]
          go_wp2
          go_ret
          exact ⟨rfl, hb45.trans (hb6.mono hb45.size)⟩
end Go.Proofs.YtjkfogjhakcnfaaDoor
