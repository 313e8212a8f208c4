import Derived.Test.YtomaaidhmccngaaGreatDoorL7
set_option linter.unusedSimpArgs false
set_option linter.unusedVariables false
set_option maxRecDepth 100000
set_option maxHeartbeats 16000000
namespace Go.Proofs.YtomaaidhmccngaaGreatDoor.L7
open Go.RowKit Go.Maps Go.Lib L3 L4 L6
def Rs (w : World) (S : Nat -> Prop) (r : Nat) (f : Int) (bad : Nat) (L : List Shr) : Prop :=
 ∃ v, Blk w r 114 #[.int .i64 f, .int .u32 bad, v] /\ w.ownsRow 0 75 11 v L.length (shrs L) /\ S r /\ (∀ k, v.ownBlock = some k -> S k)
theorem Rs.mono {w : World} {S S' : Nat -> Prop} {r : Nat} {f : Int} {bad : Nat} {L : List Shr} (h : Rs w S r f bad L) (hs : ∀ k, k < w.heap.size -> S k -> S' k) : Rs w S' r f bad L := by
 obtain ⟨v, hb, hr, h1, h3⟩ := h
 exact ⟨v, hb, hr, hs _ hb.lt h1, fun k hk => hs _ (hr.lt k hk).2 (h3 k hk)⟩
theorem Rs.kept {w w' : World} {S T : Nat -> Prop} {r : Nat} {f : Int} {bad : Nat} {L : List Shr} (h : Rs w S r f bad L) (ht : Turn T w w') (hd : ∀ k, k < w.heap.size -> S k -> ¬ T k) : Rs w' S r f bad L := by
 obtain ⟨v, hb, hr, h1, h3⟩ := h
 exact ⟨v, ht.blk hb (hd _ hb.lt h1), ht.row hr (fun k hk => hd _ (hr.lt k hk).2 (h3 k hk)), h1, h3⟩
theorem Rs.below {w w' : World} {S : Nat -> Prop} {r : Nat} {f : Int} {bad : Nat} {L : List Shr} (h : Rs w S r f bad L) (hb : Below w.heap.size w w') : Rs w' S r f bad L := h.kept (Turn.of_keep (S := fun _ => False) hb) (fun _ _ _ h => h)
theorem shrs_at {L : List Shr} {k : Nat} (hk : k < L.length) : ∀ j u, (shrL L[k])[j]? = some u -> (shrs L)[k * 11 + j]? = some u := by
 intro j u hj
 have hj11 : j < 11 := by
  rcases Nat.lt_or_ge j 11 with h | h
  ·exact h
  ·rw [List.getElem?_eq_none (by simp [shrL, stmL]; omega)] at hj; cases hj
 have e : shrs L = shrs (L.take k) ++ (shrL L[k] ++ shrs (L.drop (k + 1))) := by
  have := congrArg shrs (List.take_append_drop k L)
  rw [List.drop_eq_getElem_cons hk] at this
  rw [<- this]
  simp only [shrs, List.flatMap_append, List.flatMap_cons]
 rw [e, List.getElem?_append_right (by rw [qj6, List.length_take]; omega), qj6, List.length_take]
 rw [show k * 11 + j - min k L.length * 11 = j by rw [Nat.min_eq_left (by omega)]; omega]
 rw [List.getElem?_append_left (by simp [shrL, stmL]; omega)]
 exact hj
theorem _root_.Go.Proofs.YtomaaidhmccngaaGreatDoor.L3.Reads.shr {w : World} {B : Nat} {A : Option Addr} {L : List Shr} (h : Reads w B 11 A L.length (shrs L)) {k : Nat} (hk : k < L.length) : ∃ ad, A = some ad /\ ad.block < B /\ ∀ j u, (shrL L[k])[j]? = some u -> w.cell? ((ad.add (k * 11)).add j) = some u := by
 obtain ⟨ad, rfl, hb, hc⟩ := h.2 (by omega)
 exact ⟨ad, rfl, hb, fun j u hj => by rw [qcc]; exact hc _ u (shrs_at hk j u hj)⟩
def holdH (r m k : Nat) (x y : Shr) (n c : Nat) (ad : Addr) (W : World) : Prop :=
 W.cell? ⟨r, 2, none⟩ = some (.slice (some ad) n c) /\ Blk W m 75 (shrC x) /\ ∀ j u, (shrL y)[j]? = some u -> W.cell? ((ad.add (k * 11)).add j) = some u
theorem qd6 (S : Nat -> Prop) (r : Nat) (f : Int) (bad : Nat) (L : List Shr) (x : Shr) (w : World) (h : Rs w S r f bad L) (hx : x.wf) (hL : ∀ y ∈ L, y.wf) (hl : L.length <= 1000000000) :
 Calls Tryz.prog 115 #[.pointer (some ⟨r, 0, none⟩), .agg (shrC x)] w fun e w' => e = .returned (.bool (decide (x ∈ L))) /\ Below w.heap.size w w' := by
 obtain ⟨v, hb, hr, h1, h3⟩ := h
 obtain ⟨A, c, rfl, hc, hrd⟩ := qav hr
 have hb0 : Below w.heap.size w (w.alloc (.cells (shrC x) 75)) := (Below.refl _ _).alloc (Nat.le_refl _) _
 go_enter Tryz.func115, Tryz.ntmps115
 go_wp2
 obtain ⟨w1, hw1⟩ := nm (w.alloc (.cells (shrC x) 75))
 have hx1 : Blk w1 w.heap.size 75 (shrC x) := by rw [hw1]; exact Blk.new _ _ _
 have hb1 := hb.alloc (.cells (shrC x) 75)
 have hrd1 := hrd.alloc (Nat.le_refl _) (.cells (shrC x) 75)
 rw [<- hw1] at hb0 hb1 hrd1 ⊢
 have hr1 : w.heap.size <= w1.heap.size := hb0.size
 clear hb hr hrd hw1 h3
 go_loopw [5] (fun i wr => ∃ k : Nat, i = .int .i64 k /\ k <= L.length /\ (∀ y ∈ L.take k, y ≠ x) /\ Below w1.heap.size w1 wr) (fun i _ => L.length - (intOf i).toNat)
 case atStart => exact ⟨0, rfl, Nat.zero_le _, fun y hy => by simp at hy, Below.refl _ _⟩
 case round =>
  obtain ⟨k, rfl, hk, hno, hbr⟩ := hrel
  have hbw := hb0.trans (hbr.mono hr1)
  have hbr2 := hb1.below hbr hb1.lt
  have c2 := hbr2.cell 2
  by_cases hlt : k < L.length
  ·obtain ⟨ad, rfl, _, hcl⟩ := (hrd1.below (hbr.mono hr1)).shr hlt
   obtain ⟨y, hy⟩ := nm (L[k])
   have hyw : y.wf := by rw [hy]; exact hL _ (List.getElem_mem hlt)
   have hym : y ∈ L := by rw [hy]; exact List.getElem_mem hlt
   have htk : L.take (k + 1) = L.take k ++ [y] := by rw [hy, List.take_succ_eq_append_getElem hlt]
   rw [<- hy] at hcl
   have hxr := hx1.below hbr hx1.lt
   have HT := hid htk
   have HN := hid hno
   have HM := hid hym
   have heq := eqlS hyw hx
   clear hy htk hno hym
   by_cases hyx : y = x
   ·rw [decide_eq_true hyx] at heq
    have HE := hid heq
    have HY := hid hyx
    clear heq hyx
    go_wp2
    refine qak (holdH r w.heap.size k x y L.length c ad) [0, 1, 2, 3, 4, 5, 6, 7, 8] (by kernel_rfl) ?_
    refine' qa8 (f := 0) (n := 24) _ (by kernel_rfl) (fun _ x _ _ _ h => by cases x <;> exact h) (⟨c2, hxr, hcl⟩ : holdH r w.heap.size k x y L.length c ad wr.drew) [0, 1, 2, 3, 4, 5, 6, 7, 8] _ _ (by kernel_rfl) (by kernel_rfl) (by kernel_rfl) (by rfl) (fun W hW => ?hr) ?hk
    case hr =>
     obtain ⟨q2, qb, qc⟩ := hW
     conv => arg 5; simp [pick]
     repeat (first | still_step | (refine qay rfl _ _ rfl _ rfl _ _ _ _ qb Tryz.underlying75 rfl (by kernel_rfl) ?_) | (refine qcw rfl _ _ rfl _ rfl (shrL y) _ qc Tryz.underlying75 rfl (by kernel_rfl) ?_) | (refine qeg rfl _ _ _ _ _ rfl (shrC y) (shrC x) rfl rfl (by kernel_rfl) (HE.out W) ?_))
     refine wpStill_nil ?_
     rfl
    refine qaq [] _ _ _ (by kernel_rfl) ?_
    conv => arg 4; simp [pick]
    go_wp2
    go_ret
    exact ⟨by rw [decide_eq_true (HY.out ▸ HM.out)]; rfl, qbp hbw⟩
   ·rw [decide_eq_false hyx] at heq
    have HE := hid heq
    have HY := hid hyx
    clear heq hyx
    go_wp2
    refine qak (holdH r w.heap.size k x y L.length c ad) [0, 1, 2, 3, 4, 5, 6, 7, 8] (by kernel_rfl) ?_
    refine' qa8 (f := 0) (n := 24) _ (by kernel_rfl) (fun _ x _ _ _ h => by cases x <;> exact h) (⟨c2, hxr, hcl⟩ : holdH r w.heap.size k x y L.length c ad wr.drew) [0, 1, 2, 3, 4, 5, 6, 7, 8] _ _ (by kernel_rfl) (by kernel_rfl) (by kernel_rfl) (by rfl) (fun W hW => ?hr2) ?hk2
    case hr2 =>
     obtain ⟨q2, qb, qc⟩ := hW
     conv => arg 5; simp [pick]
     repeat (first | still_step | (refine qay rfl _ _ rfl _ rfl _ _ _ _ qb Tryz.underlying75 rfl (by kernel_rfl) ?_) | (refine qcw rfl _ _ rfl _ rfl (shrL y) _ qc Tryz.underlying75 rfl (by kernel_rfl) ?_) | (refine qeg rfl _ _ _ _ _ rfl (shrC y) (shrC x) rfl rfl (by kernel_rfl) (HE.out W) ?_))
     refine wpStill_nil ?_
     rfl
    refine qaq [] _ _ _ (by kernel_rfl) ?_
    conv => arg 4; simp [pick]
    go_wp2
    go_roundw
    case rel => exact ⟨k + 1, by go_num, by omega, fun z hz => by
     rw [HT.out, List.mem_append] at hz
     rcases hz with hz | hz
     ·exact HN.out z hz
     ·simp at hz; subst hz; exact HY.out, qbp hbr⟩
    case measure => simp [intOf]; omega
  ·rw [List.take_of_length_le (by omega)] at hno
   have hn : x ∉ L := fun h => hno x h rfl
   have HN := hid hn
   clear hno hn
   go_wp2_with fail
   go_ret
   exact ⟨by rw [decide_eq_false HN.out]; rfl, hbw⟩
def holdC (r m : Nat) (bad : Nat) (x : Shr) (W : World) : Prop := W.cell? ⟨r, 1, none⟩ = some (.int .u32 bad) /\ Blk W m 75 (shrC x)
theorem qdU (S : Nat -> Prop) (r : Nat) (f : Int) (bad : Nat) (L : List Shr) (x : Shr) (w : World) (h : Rs w S r f bad L) (hf : inI f) (hbad : bad < 4294967296) (hx : x.wf) (hL : ∀ y ∈ L, y.wf) (hl : L.length <= 1000000000) :
 Calls Tryz.prog 69 #[.pointer (some ⟨r, 0, none⟩), .agg (shrC x)] w fun e w' => e = .returned (.int .i64 (cntE f bad L x)) /\ Below w.heap.size w w' := by
 have HB := hid h
 obtain ⟨v, hb, hr, h1, h3⟩ := h
 have hb0 : Below w.heap.size w (w.alloc (.cells (shrC x) 75)) := (Below.refl _ _).alloc (Nat.le_refl _) _
 have s0 : (shrC x)[0]? = some (.int .i64 x.k) := rfl
 have ha := fun w => qaQ f w hf.1 hf.2
 obtain ⟨m, hm, hm10⟩ := qbv f
 rw [hm] at ha
 have c0 := (hb.alloc (.cells (shrC x) 75)).cell 0
 have HA := hid ha
 have HX := hid hx
 unfold cntE inN
 rw [hm]
 clear ha hr h3 hx hm
 obtain ⟨q, hq⟩ := nm (x.k)
 rw [<- hq] at s0
 by_cases hk0 : q < 0
 ·rw [if_neg (by simp [<- hq]; omega)]
  clear hq
  go_enter Tryz.func69, Tryz.ntmps69
  go_wp2
  go_quiet (fail)
  go_wp2
  go_ret
  exact ⟨rfl, below_drewN hb0 _⟩
 ·have hk0' : decide (q < 0) = false := by simp; omega
  by_cases hk1 : (m : Int) <= q
  ·rw [if_neg (by simp [<- hq]; omega)]
   clear hq hk0
   go_enter Tryz.func69, Tryz.ntmps69
   go_wp2
   go_quiet ((go_at_call 96; exact qaY (HA.out _)))
   go_wp2
   go_ret
   exact ⟨rfl, below_drewN hb0 _⟩
  ·rw [if_pos (by simp [<- hq]; omega)]
   have hk1' : decide ((m : Int) <= q) = false := by simp; omega
   have hh := fun w => qk6 bad x.k w hbad
   rw [<- hq] at hh ⊢
   clear hq hk0 hk1
   rcases Bool.eq_false_or_eq_true (hasV bad q) with hv | hv
   ·rw [hv] at hh ⊢
    rw [show (if x ∈ L then (0 : Int) else if true = true then 0 else 60) = 0 by split <;> rfl]
    have HH := hid hh
    clear hh hv
    go_enter Tryz.func69, Tryz.ntmps69
    go_wp2
    go_quiet ((go_at_call 96; exact qaY (HA.out _)))
    go_wp2
    refine qab (fun w4 hw4 => ?_)
    have hb4 : Below w.heap.size w w4 := by rw [hw4]; exact below_drewN hb0 _
    have c4 : w4.cell? ⟨r, 1, none⟩ = some (.int .u32 bad) := by rw [hw4]; exact (hb.alloc _).cell 1
    have x4 : Blk w4 w.heap.size 75 (shrC x) := by rw [hw4]; exact Blk.new _ _ _
    have R4 := hid (HB.out.below hb4)
    have hlt4 : w.heap.size < w4.heap.size := x4.lt
    clear hw4 hb
    refine qak (holdC r w.heap.size bad x) [0, 1, 2, 3, 4, 5, 7, 8, 9, 10, 11] (by kernel_rfl) ?_
    refine' qa8 (f := 6) (n := 30) _ (by kernel_rfl) (fun _ x _ _ _ h => by cases x <;> exact h) (⟨c4, x4⟩ : holdC r w.heap.size bad x w4.drew) [0, 1, 2, 3, 4, 5] _ _ (by kernel_rfl) (by kernel_rfl) (by kernel_rfl) (by rfl) (fun W hW => ?hr1) ?hk1
    case hr1 =>
     obtain ⟨q1, qb⟩ := hW
     have q0 := qb.cell 0
     rw [s0] at q0
     conv => arg 5; simp [pick]
     repeat still_step
     refine wpStill_nil ?_
     rfl
    refine qag 6 (by kernel_rfl) rfl ?_
    go_wp2_with (go_at_call 129; refine (HH.out _).mono ?_; rintro e w5 ⟨rfl, hb5'⟩)
    have hb5 := undrew hb5'
    have c5 : w5.cell? ⟨r, 1, none⟩ = some (.int .u32 bad) := (hb5.cell (p := ⟨r, 1, none⟩) (World.block_lt_of_cell? _ _ c4)).trans c4
    have x5 : Blk w5 w.heap.size 75 (shrC x) := x4.below hb5 hlt4
    have hb45 : Below w.heap.size w w5 := hb4.trans (hb5.mono hb4.size)
    refine stepQ.mk ⟨fun _ => ⟨c5, x5⟩, ?_⟩
    refine' qa8 (f := 0) (n := 30) _ (by kernel_rfl) (fun _ x _ _ _ h => by cases x <;> exact h) (⟨c5, x5⟩ : holdC r w.heap.size bad x w5) [7, 8, 9, 10, 11] _ _ (by kernel_rfl) (by kernel_rfl) (by kernel_rfl) (by rfl) (fun W hW => ?hr3) ?hk3
    case hr3 =>
     conv => arg 5; simp [pick]
     repeat still_step
     refine wpStill_nil ?_
     rfl
    refine qaq [] _ _ _ (by kernel_rfl) ?_
    conv => arg 4; simp [pick]
    go_wp2
    go_ret
    exact ⟨rfl, hb45⟩
   ·rw [hv] at hh ⊢
    rw [if_neg (show ¬ false = true by decide)]
    have HH := hid hh
    have hhas := fun w5 (hR : Rs w5 S r f bad L) => qd6 S r f bad L x w5 hR HX.out hL hl
    clear hh hv
    by_cases hn : x ∈ L
    ·rw [decide_eq_true hn] at hhas; rw [if_pos hn]
     have HQ := hid hhas
     clear hhas hn
     go_enter Tryz.func69, Tryz.ntmps69
     go_wp2
     go_quiet ((go_at_call 96; exact qaY (HA.out _)))
     go_wp2
     refine qab (fun w4 hw4 => ?_)
     have hb4 : Below w.heap.size w w4 := by rw [hw4]; exact below_drewN hb0 _
     have c4 : w4.cell? ⟨r, 1, none⟩ = some (.int .u32 bad) := by rw [hw4]; exact (hb.alloc _).cell 1
     have x4 : Blk w4 w.heap.size 75 (shrC x) := by rw [hw4]; exact Blk.new _ _ _
     have R4 := hid (HB.out.below hb4)
     have hlt4 : w.heap.size < w4.heap.size := x4.lt
     clear hw4 hb
     refine qak (holdC r w.heap.size bad x) [0, 1, 2, 3, 4, 5, 7, 8, 9, 11] (by kernel_rfl) ?_
     refine' qa8 (f := 6) (n := 30) _ (by kernel_rfl) (fun _ x _ _ _ h => by cases x <;> exact h) (⟨c4, x4⟩ : holdC r w.heap.size bad x w4.drew) [0, 1, 2, 3, 4, 5] _ _ (by kernel_rfl) (by kernel_rfl) (by kernel_rfl) (by rfl) (fun W hW => ?hr4a) ?hk4a
     case hr4a =>
      obtain ⟨q1, qb⟩ := hW
      have q0 := qb.cell 0
      rw [s0] at q0
      conv => arg 5; simp [pick]
      repeat still_step
      refine wpStill_nil ?_
      rfl
     refine qag 6 (by kernel_rfl) rfl ?_
     go_wp2_with (go_at_call 129; refine (HH.out _).mono ?_; rintro e w5 ⟨rfl, hb5'⟩)
     have hb5 := undrew hb5'
     have c5 : w5.cell? ⟨r, 1, none⟩ = some (.int .u32 bad) := (hb5.cell (p := ⟨r, 1, none⟩) (World.block_lt_of_cell? _ _ c4)).trans c4
     have x5 : Blk w5 w.heap.size 75 (shrC x) := x4.below hb5 hlt4
     have hb45 : Below w.heap.size w w5 := hb4.trans (hb5.mono hb4.size)
     refine stepQ.mk ⟨fun _ => ⟨c5, x5⟩, ?_⟩
     refine' qa8 (f := 2) (n := 30) _ (by kernel_rfl) (fun _ x _ _ _ h => by cases x <;> exact h) (⟨c5, x5⟩ : holdC r w.heap.size bad x w5) [7, 8, 9] _ _ (by kernel_rfl) (by kernel_rfl) (by kernel_rfl) (by rfl) (fun W hW => ?hr5a) ?hk5a
     case hr5a =>
      obtain ⟨q1, qb⟩ := hW
      conv => arg 5; simp [pick]
      repeat (first | still_step | (refine qdx rfl _ _ rfl _ rfl _ _ _ _ qb Tryz.underlying75 rfl (by kernel_rfl) ?_))
      refine wpStill_nil ?_
      rfl
     refine qag 10 (by kernel_rfl) rfl ?_
     go_wp2_with (go_at_call 115; refine (HQ.out _ (R4.out.below hb5)).mono ?_; rintro e w6 ⟨rfl, hb6⟩)
     refine stepQ.mk ⟨fun _ => ⟨(hb6.cell (p := ⟨r, 1, none⟩) (World.block_lt_of_cell? _ _ c5)).trans c5, x5.below hb6 x5.lt⟩, ?_⟩
     have c6 : w6.cell? ⟨r, 1, none⟩ = some (.int .u32 bad) := (hb6.cell (p := ⟨r, 1, none⟩) (World.block_lt_of_cell? _ _ c5)).trans c5
     refine' qa8 (f := 0) (n := 30) _ (by kernel_rfl) (fun _ x _ _ _ h => by cases x <;> exact h) (⟨c6, x5.below hb6 x5.lt⟩ : holdC r w.heap.size bad x w6) [11] _ _ (by kernel_rfl) (by kernel_rfl) (by kernel_rfl) (by rfl) (fun W hW => ?hr6a) ?hk6a
     case hr6a =>
      conv => arg 5; simp [pick]
      repeat still_step
      refine wpStill_nil ?_
      rfl
     refine qaq [] _ _ _ (by kernel_rfl) ?_
     conv => arg 4; simp [pick]
     go_wp2
     go_ret
     exact ⟨rfl, hb45.trans (hb6.mono hb45.size)⟩
    ·rw [decide_eq_false hn] at hhas; rw [if_neg hn]
     have HQ := hid hhas
     clear hhas hn
     go_enter Tryz.func69, Tryz.ntmps69
     go_wp2
     go_quiet ((go_at_call 96; exact qaY (HA.out _)))
     go_wp2
     refine qab (fun w4 hw4 => ?_)
     have hb4 : Below w.heap.size w w4 := by rw [hw4]; exact below_drewN hb0 _
     have c4 : w4.cell? ⟨r, 1, none⟩ = some (.int .u32 bad) := by rw [hw4]; exact (hb.alloc _).cell 1
     have x4 : Blk w4 w.heap.size 75 (shrC x) := by rw [hw4]; exact Blk.new _ _ _
     have R4 := hid (HB.out.below hb4)
     have hlt4 : w.heap.size < w4.heap.size := x4.lt
     clear hw4 hb
     refine qak (holdC r w.heap.size bad x) [0, 1, 2, 3, 4, 5, 7, 8, 9, 11] (by kernel_rfl) ?_
     refine' qa8 (f := 6) (n := 30) _ (by kernel_rfl) (fun _ x _ _ _ h => by cases x <;> exact h) (⟨c4, x4⟩ : holdC r w.heap.size bad x w4.drew) [0, 1, 2, 3, 4, 5] _ _ (by kernel_rfl) (by kernel_rfl) (by kernel_rfl) (by rfl) (fun W hW => ?hr4b) ?hk4b
     case hr4b =>
      obtain ⟨q1, qb⟩ := hW
      have q0 := qb.cell 0
      rw [s0] at q0
      conv => arg 5; simp [pick]
      repeat still_step
      refine wpStill_nil ?_
      rfl
     refine qag 6 (by kernel_rfl) rfl ?_
     go_wp2_with (go_at_call 129; refine (HH.out _).mono ?_; rintro e w5 ⟨rfl, hb5'⟩)
     have hb5 := undrew hb5'
     have c5 : w5.cell? ⟨r, 1, none⟩ = some (.int .u32 bad) := (hb5.cell (p := ⟨r, 1, none⟩) (World.block_lt_of_cell? _ _ c4)).trans c4
     have x5 : Blk w5 w.heap.size 75 (shrC x) := x4.below hb5 hlt4
     have hb45 : Below w.heap.size w w5 := hb4.trans (hb5.mono hb4.size)
     refine stepQ.mk ⟨fun _ => ⟨c5, x5⟩, ?_⟩
     refine' qa8 (f := 2) (n := 30) _ (by kernel_rfl) (fun _ x _ _ _ h => by cases x <;> exact h) (⟨c5, x5⟩ : holdC r w.heap.size bad x w5) [7, 8, 9] _ _ (by kernel_rfl) (by kernel_rfl) (by kernel_rfl) (by rfl) (fun W hW => ?hr5b) ?hk5b
     case hr5b =>
      obtain ⟨q1, qb⟩ := hW
      conv => arg 5; simp [pick]
      repeat (first | still_step | (refine qdx rfl _ _ rfl _ rfl _ _ _ _ qb Tryz.underlying75 rfl (by kernel_rfl) ?_))
      refine wpStill_nil ?_
      rfl
     refine qag 10 (by kernel_rfl) rfl ?_
     go_wp2_with (go_at_call 115; refine (HQ.out _ (R4.out.below hb5)).mono ?_; rintro e w6 ⟨rfl, hb6⟩)
     refine stepQ.mk ⟨fun _ => ⟨(hb6.cell (p := ⟨r, 1, none⟩) (World.block_lt_of_cell? _ _ c5)).trans c5, x5.below hb6 x5.lt⟩, ?_⟩
     have c6 : w6.cell? ⟨r, 1, none⟩ = some (.int .u32 bad) := (hb6.cell (p := ⟨r, 1, none⟩) (World.block_lt_of_cell? _ _ c5)).trans c5
     refine' qa8 (f := 0) (n := 30) _ (by kernel_rfl) (fun _ x _ _ _ h => by cases x <;> exact h) (⟨c6, x5.below hb6 x5.lt⟩ : holdC r w.heap.size bad x w6) [11] _ _ (by kernel_rfl) (by kernel_rfl) (by kernel_rfl) (by rfl) (fun W hW => ?hr6b) ?hk6b
     case hr6b =>
      conv => arg 5; simp [pick]
      repeat still_step
      refine wpStill_nil ?_
      rfl
     refine qaq [] _ _ _ (by kernel_rfl) ?_
     conv => arg 4; simp [pick]
     go_wp2
     go_ret
     exact ⟨rfl, hb45.trans (hb6.mono hb45.size)⟩
end Go.Proofs.YtomaaidhmccngaaGreatDoor.L7
namespace Go.Proofs.YtomaaidhmccngaaGreatDoor.L7
open Go.RowKit Go.Maps Go.Lib L3 L4 L6
theorem qhG (S : Nat -> Prop) (r : Nat) (f : Int) (bad : Nat) (L : List Shr) (x : Shr) (w : World) (h : Rs w S r f bad L) (hf : inI f) (hk : inN f x.k = false) :
 Calls Tryz.prog 46 #[.pointer (some ⟨r, 0, none⟩), .agg (shrC x)] w fun e w' => e = .returned (.int .i64 40) /\ Below w.heap.size w w' := by
 obtain ⟨v, hb, hr, h1, h3⟩ := h
 have hb0 : Below w.heap.size w (w.alloc (.cells (shrC x) 75)) := (Below.refl _ _).alloc (Nat.le_refl _) _
 have s0 : (shrC x)[0]? = some (.int .i64 x.k) := rfl
 have ha := fun w => qaQ f w hf.1 hf.2
 obtain ⟨m, hm, hm10⟩ := qbv f
 rw [hm] at ha
 have c0 := (hb.alloc (.cells (shrC x) 75)).cell 0
 have HA := hid ha
 unfold inN at hk
 rw [hm] at hk
 have hk := of_decide_eq_false hk
 clear ha hr h3 hm
 obtain ⟨q, hq⟩ := nm (x.k)
 rw [<- hq] at s0 hk
 by_cases hk0 : q < 0
 ·clear hq hk
  go_enter Tryz.func46, Tryz.ntmps46
  go_wp2
  go_quiet (fail)
  go_wp2
  go_ret
  exact ⟨rfl, below_drewN hb0 _⟩
 ·have hk0' : decide (q < 0) = false := by simp; omega
  have hk1 : (m : Int) <= q := by omega
  clear hq hk0 hk
  go_enter Tryz.func46, Tryz.ntmps46
  go_wp2
  go_quiet ((go_at_call 96; exact qaY (HA.out _)))
  go_wp2
  go_ret
  exact ⟨rfl, below_drewN hb0 _⟩
def holdA (r m : Nat) (x : Shr) (v : Value) (W : World) : Prop := W.cell? ⟨r, 2, none⟩ = some v /\ Blk W m 75 (shrC x)
theorem qhF (S : Nat -> Prop) (r : Nat) (f : Int) (bad : Nat) (L : List Shr) (x : Shr) (w : World) (h : Rs w S r f bad L) (hf : inI f) (hx : x.wf) (hL : ∀ y ∈ L, y.wf) (hl : L.length <= 1000000000) (hk : inN f x.k = true) (hn : x ∈ L) :
 Calls Tryz.prog 46 #[.pointer (some ⟨r, 0, none⟩), .agg (shrC x)] w fun e w' => e = .returned (.int .i64 0) /\ Below w.heap.size w w' := by
 have HB := hid h
 obtain ⟨v, hb, hr, h1, h3⟩ := h
 have hb0 : Below w.heap.size w (w.alloc (.cells (shrC x) 75)) := (Below.refl _ _).alloc (Nat.le_refl _) _
 have s0 : (shrC x)[0]? = some (.int .i64 x.k) := rfl
 have ha := fun w => qaQ f w hf.1 hf.2
 have hhas := fun w5 (hR : Rs w5 S r f bad L) => qd6 S r f bad L x w5 hR hx hL hl
 rw [decide_eq_true hn] at hhas
 obtain ⟨m, hm, hm10⟩ := qbv f
 rw [hm] at ha
 have c0 := (hb.alloc (.cells (shrC x) 75)).cell 0
 have HA := hid (And.intro ha hhas)
 unfold inN at hk
 rw [hm] at hk
 have hk := of_decide_eq_true hk
 obtain ⟨q, hq⟩ := nm (x.k)
 rw [<- hq] at s0 hk
 have hk0' : decide (q < 0) = false := by simp; omega
 have hk1' : decide ((m : Int) <= q) = false := by simp; omega
 clear hq hk ha hr h3 hm hhas hn
 go_enter Tryz.func46, Tryz.ntmps46
 go_wp2
 go_quiet ((go_at_call 96; exact qaY (HA.out.1 _)))
 go_wp2_with (first
  | (refine qaa rfl _ _ rfl w.heap.size rfl _ _ _ _ (Blk.drewN (Blk.new w 75 (shrC x)) _) Tryz.underlying75 rfl (by kernel_rfl) ?_)
  | (go_at_call 115; refine (HA.out.2 _ (HB.out.below (below_drewN hb0 _))).mono ?_; rintro e w5 ⟨rfl, hb5⟩))
 go_ret
 exact ⟨rfl, (below_drewN hb0 _).trans (hb5.mono hb0.size)⟩
theorem qhE (S : Nat -> Prop) (r : Nat) (f : Int) (bad : Nat) (L : List Shr) (x : Shr) (w : World) (h : Rs w S r f bad L) (hf : inI f) (hx : x.wf) (hL : ∀ y ∈ L, y.wf) (hl : L.length <= 1000000000) (hk : inN f x.k = true) (hn : x ∉ L) :
 Calls Tryz.prog 46 #[.pointer (some ⟨r, 0, none⟩), .agg (shrC x)] w fun e w' => e = .returned (.int .i64 0) /\ Rs w' (moreB S w w') r f bad (L ++ [x]) /\ Turn S w w' := by
 have HB := hid h
 obtain ⟨v, hb, hr, h1, h3⟩ := h
 have hb0 : Below w.heap.size w (w.alloc (.cells (shrC x) 75)) := (Below.refl _ _).alloc (Nat.le_refl _) _
 have s0 : (shrC x)[0]? = some (.int .i64 x.k) := rfl
 have ha := fun w => qaQ f w hf.1 hf.2
 have hhas := fun w5 (hR : Rs w5 S r f bad L) => qd6 S r f bad L x w5 hR hx hL hl
 rw [decide_eq_false hn] at hhas
 obtain ⟨m, hm, hm10⟩ := qbv f
 rw [hm] at ha
 have c0 := (hb.alloc (.cells (shrC x) 75)).cell 0
 have HA := hid (And.intro ha hhas)
 have HRW := hid hr
 obtain ⟨i0, hi, hz0, hz1, hz2⟩ := info_parts shrInfo
 unfold inN at hk
 rw [hm] at hk
 have hk := of_decide_eq_true hk
 obtain ⟨q, hq⟩ := nm (x.k)
 rw [<- hq] at s0 hk
 have hk0' : decide (q < 0) = false := by simp; omega
 have hk1' : decide ((m : Int) <= q) = false := by simp; omega
 clear hq hk ha hr hm hhas hn
 go_enter Tryz.func46, Tryz.ntmps46
 go_wp2
 go_quiet ((go_at_call 96; exact qaY (HA.out.1 _)))
 go_wp2_with (first
  | (refine qaa rfl _ _ rfl w.heap.size rfl _ _ _ _ (Blk.drewN (Blk.new w 75 (shrC x)) _) Tryz.underlying75 rfl (by kernel_rfl) ?_)
  | (go_at_call 115; refine (HA.out.2 _ (HB.out.below (below_drewN hb0 _))).mono ?_; rintro e w5 ⟨rfl, hb5⟩))
 have hb05 : Below w.heap.size w w5 := (below_drewN hb0 _).trans (hb5.mono hb0.size)
 have hx5 : Blk w5 w.heap.size 75 (shrC x) := (Blk.drewN (Blk.new w 75 (shrC x)) _).below hb5 (by simp)
 have hb5' : Blk w5 r 114 #[.int .i64 f, .int .u32 bad, v] := hb.below hb05 hb.lt
 have hr5 : w5.ownsRow 0 75 11 v L.length (shrs L) := (Turn.of_keep (S := fun _ => False) hb05).row HRW.out (by simp)
 obtain ⟨A5, c5, rfl, hc5, hrd5⟩ := qav hr5
 have hlt5 : w.heap.size < w5.heap.size := hx5.lt
 have hmL : L.length < L.length + 1 := by omega
 clear hb5 c0 hb
 refine qak (holdA r w.heap.size x (.slice A5 L.length c5)) [0, 2, 3, 4, 5, 7] (by kernel_rfl) ?_
 refine' qa8 (f := 7) (n := 34) _ (by kernel_rfl) (fun _ x _ _ _ h => by cases x <;> exact h) (⟨hb5'.cell 2, hx5⟩ : holdA r w.heap.size x (.slice A5 L.length c5) w5.drew) [0, 2, 3, 4, 5, 7] _ _ (by kernel_rfl) (by kernel_rfl) (by kernel_rfl) (by rfl) (fun W hW => ?hr1) ?hk1
 case hr1 =>
  obtain ⟨q2, qb⟩ := hW
  conv => arg 5; simp [pick]
  repeat (first | still_step | (refine qay rfl _ _ rfl _ rfl _ _ _ _ qb Tryz.underlying75 rfl (by kernel_rfl) ?_))
  refine wpStill_nil ?_
  rfl
 obtain ⟨w6, hw6⟩ := nm (w5.drew)
 have hb6 : Blk w6 r 114 #[.int .i64 f, .int .u32 bad, .slice A5 L.length c5] := by rw [hw6]; exact hb5'
 have hx6 : Blk w6 w.heap.size 75 (shrC x) := by rw [hw6]; exact hx5
 have hrd6 : Reads w6 w6.heap.size 11 A5 L.length (shrs L) := by rw [hw6]; exact hrd5
 have hlt6 : w.heap.size < w6.heap.size := hx6.lt
 have ht6 : Turn S w w6 := by rw [hw6]; exact (Turn.of_keep hb05).drew
 rw [<- hw6]
 clear hb5' hx5 hrd5 hw6 hlt5 hr5
 refine qcM 1 8 (by kernel_rfl) rfl rfl ?_ ?_
 ·refine wpList_buildSlice rfl _ _ _ rfl #[] rfl (qgd w6) ?_
  go_wp2
  refine stepQ.mk ⟨fun _ => ⟨(hb6.alloc _).cell 2, hx6.alloc _⟩, ?_⟩
  obtain ⟨p1, hp1⟩ := nm (w6.alloc (.cells #[] 75))
  have hbp1 : Blk p1 r 114 #[.int .i64 f, .int .u32 bad, .slice A5 L.length c5] := by rw [hp1]; exact hb6.alloc _
  have hxp1 : Blk p1 w.heap.size 75 (shrC x) := by rw [hp1]; exact hx6.alloc _
  have htp1 : Turn S w p1 := by rw [hp1]; exact ht6.alloc _
  have hsp1 : p1.heap.size = w6.heap.size + 1 := by rw [hp1]; simp
  have hrdp1 : Reads p1 p1.heap.size 11 A5 L.length (shrs L) := by rw [hp1]; exact (hrd6.alloc (Nat.le_refl _) _).more (by simp)
  have hop1 : p1.ownsRow 0 75 11 (.slice (some ⟨w6.heap.size, 0, none⟩) 0 0) 0 [] := by rw [hp1]; exact World.ownsRow_made _ _ 0 (Nat.zero_le _) (by decide) rfl
  rw [<- hp1]
  clear hp1
  refine qcM 6 8 (by kernel_rfl) rfl rfl ?_ ?_
  ·refine qao _ rfl (.tmp 23) (.tmp 27) 25 rfl 0 75 i0 _ 11 88 Tryz.underlying25 hi hz0 hz1 hz2 rfl (by decide) (.slice (some ⟨w6.heap.size, 0, none⟩) 0 0) 0 [] rfl hop1 p1.heap.size A5 L.length c5 (shrs L) rfl hrdp1 (qgJ L) (by unfold maxLen; omega) (by omega) (Nat.zero_le _) ?_
   intro vp2 p2 hop2 hgp2 hatp2
   simp only [Nat.zero_add, List.nil_append] at hop2
   go_wp2
   have hbp2 := hbp1.grown hgp2 (fun e => qa1 hop1 hbp1 (by decide) e.symm)
   have hxp2 := hxp1.grown hgp2 (fun e => by simp [Value.ownBlock] at e; omega)
   have htp2 := htp1.grown hgp2 (fun i e => .inr (by simp [Value.ownBlock] at e; omega))
   have hvp2 : ∀ i, vp2.ownBlock = some i -> w.heap.size < i := by
    intro i hi
    rcases hatp2 with e | e
    ·rw [e] at hi; simp [Value.ownBlock] at hi; omega
    ·rw [e] at hi; simp at hi; omega
   refine stepQ.mk ⟨fun _ => ⟨hbp2.cell 2, hxp2⟩, ?_⟩
   have hsp2 := hgp2.size
   refine qag 8 (by kernel_rfl) rfl ?_
   refine wpList_buildSlice rfl _ _ _ rfl #[(0, .agg (shrC x))] rfl (qco x p2) ?_
   go_wp2
   refine stepQ.mk ⟨fun _ => ⟨(hbp2.alloc _).cell 2, hxp2.alloc _⟩, ?_⟩
   obtain ⟨p3, hp3⟩ := nm (p2.alloc (.cells (shrC x) 75))
   have hbp3 : Blk p3 r 114 #[.int .i64 f, .int .u32 bad, .slice A5 L.length c5] := by rw [hp3]; exact hbp2.alloc _
   have hxp3 : Blk p3 w.heap.size 75 (shrC x) := by rw [hp3]; exact hxp2.alloc _
   have htp3 : Turn S w p3 := by rw [hp3]; exact htp2.alloc _
   have hsp3 : p3.heap.size = p2.heap.size + 1 := by rw [hp3]; simp
   have hop3 := hop2.alloc (.cells (shrC x) 75)
   rw [<- hp3] at hop3
   have hyp3 : Blk p3 p2.heap.size 75 (shrC x) := by rw [hp3]; exact Blk.new _ _ _
   rw [<- hp3]
   clear hp3
   refine qag 9 (by kernel_rfl) rfl ?_
   refine qao _ rfl (.tmp 28) (.tmp 30) 25 rfl 0 75 i0 _ 11 88 Tryz.underlying25 hi hz0 hz1 hz2 rfl (by decide) vp2 L.length (shrs L) rfl hop3 (p2.heap.size + 1) (some ⟨p2.heap.size, 0, none⟩) 1 1 (shrL x) rfl (qfo hyp3) (qct x) (by unfold maxLen; omega) (by omega) (Nat.zero_le _) ?_
   intro vp4 p4 hop4 hgp4 hatp4
   go_wp2
   have hbp4 := hbp3.grown hgp4 (fun e => qa1 hop3 hbp3 (by decide) e.symm)
   have hxp4 := hxp3.grown hgp4 (fun e => by have := hvp2 _ e.symm; omega)
   have htp4 := htp3.grown hgp4 (fun i e => .inr (Nat.le_of_lt (hvp2 i e)))
   refine stepQ.mk ⟨fun _ => ⟨hbp4.cell 2, hxp4⟩, ?_⟩
   have hsp4 := hgp4.size
   have hvp4 : ∀ i, vp4.ownBlock = some i -> w.heap.size <= i := by
    intro i hi
    rcases hatp4 with e | e
    ·rw [e] at hi; exact Nat.le_of_lt (hvp2 i hi)
    ·rw [e] at hi; simp at hi; have := htp4.size; have := htp3.size; omega
   obtain ⟨A9, c9, rfl, hc9, hrd9⟩ := qav hop4
   have c2 := hbp4.cell 2
   have f2 := hbp4.frozen 2
   refine qaq [10, 11, 12] _ _ _ (by kernel_rfl) ?_
   conv => arg 4; simp [pick]
   go_wp2
   go_ret
   have hR := ((Turn.refl (fun k => k = r) p4).setCell (p := ⟨r, 2, none⟩) (.inl rfl) (.slice A9 (L.length + 1) c9)).row hop4 (fun k hk e => qa1 hop4 hbp4 (by decide) (by rw [hk, e]))
   refine ⟨rfl, ⟨.slice A9 (L.length + 1) c9, hbp4.set_ 2 _, ?_, .inl h1, fun k hk => .inr ⟨hvp4 k hk, (hR.lt k hk).2⟩⟩, htp4.setCell (.inl h1) _⟩
   rw [List.length_append, qda]; exact hR
  ·refine wpList_buildSlice rfl _ _ _ rfl #[(0, .agg (shrC x))] rfl (qco x p1) ?_
   go_wp2
   refine stepQ.mk ⟨fun _ => ⟨(hbp1.alloc _).cell 2, hxp1.alloc _⟩, ?_⟩
   obtain ⟨p2, hp2⟩ := nm (p1.alloc (.cells (shrC x) 75))
   have hbp2 : Blk p2 r 114 #[.int .i64 f, .int .u32 bad, .slice A5 L.length c5] := by rw [hp2]; exact hbp1.alloc _
   have hxp2 : Blk p2 w.heap.size 75 (shrC x) := by rw [hp2]; exact hxp1.alloc _
   have htp2 : Turn S w p2 := by rw [hp2]; exact htp1.alloc _
   have hsp2 : p2.heap.size = p1.heap.size + 1 := by rw [hp2]; simp
   have hrdp2 : Reads p2 p2.heap.size 11 A5 L.length (shrs L) := by rw [hp2]; exact (hrdp1.alloc (Nat.le_refl _) _).more (by simp)
   have hop2 := hop1.alloc (.cells (shrC x) 75)
   rw [<- hp2] at hop2
   have hyp2 : Blk p2 p1.heap.size 75 (shrC x) := by rw [hp2]; exact Blk.new _ _ _
   rw [<- hp2]
   clear hp2
   refine qag 6 (by kernel_rfl) rfl ?_
   refine qao _ rfl (.tmp 23) (.tmp 27) 25 rfl 0 75 i0 _ 11 88 Tryz.underlying25 hi hz0 hz1 hz2 rfl (by decide) (.slice (some ⟨w6.heap.size, 0, none⟩) 0 0) 0 [] rfl hop2 p2.heap.size A5 L.length c5 (shrs L) rfl hrdp2 (qgJ L) (by unfold maxLen; omega) (by omega) (Nat.zero_le _) ?_
   intro vp3 p3 hop3 hgp3 hatp3
   simp only [Nat.zero_add, List.nil_append] at hop3
   go_wp2
   have hbp3 := hbp2.grown hgp3 (fun e => qa1 hop2 hbp2 (by decide) e.symm)
   have hxp3 := hxp2.grown hgp3 (fun e => by simp [Value.ownBlock] at e; omega)
   have htp3 := htp2.grown hgp3 (fun i e => .inr (by simp [Value.ownBlock] at e; omega))
   have hyp3 := hyp2.grown hgp3 (fun e => by simp [Value.ownBlock] at e; omega)
   have hvp3 : ∀ i, vp3.ownBlock = some i -> w.heap.size < i := by
    intro i hi
    rcases hatp3 with e | e
    ·rw [e] at hi; simp [Value.ownBlock] at hi; omega
    ·rw [e] at hi; simp at hi; omega
   refine stepQ.mk ⟨fun _ => ⟨hbp3.cell 2, hxp3⟩, ?_⟩
   have hsp3 := hgp3.size
   refine qag 9 (by kernel_rfl) rfl ?_
   refine qao _ rfl (.tmp 28) (.tmp 30) 25 rfl 0 75 i0 _ 11 88 Tryz.underlying25 hi hz0 hz1 hz2 rfl (by decide) vp3 L.length (shrs L) rfl hop3 (p1.heap.size + 1) (some ⟨p1.heap.size, 0, none⟩) 1 1 (shrL x) rfl (qfo hyp3) (qct x) (by unfold maxLen; omega) (by omega) (Nat.zero_le _) ?_
   intro vp4 p4 hop4 hgp4 hatp4
   go_wp2
   have hbp4 := hbp3.grown hgp4 (fun e => qa1 hop3 hbp3 (by decide) e.symm)
   have hxp4 := hxp3.grown hgp4 (fun e => by have := hvp3 _ e.symm; omega)
   have htp4 := htp3.grown hgp4 (fun i e => .inr (Nat.le_of_lt (hvp3 i e)))
   refine stepQ.mk ⟨fun _ => ⟨hbp4.cell 2, hxp4⟩, ?_⟩
   have hsp4 := hgp4.size
   have hvp4 : ∀ i, vp4.ownBlock = some i -> w.heap.size <= i := by
    intro i hi
    rcases hatp4 with e | e
    ·rw [e] at hi; exact Nat.le_of_lt (hvp3 i hi)
    ·rw [e] at hi; simp at hi; have := htp4.size; have := htp3.size; omega
   obtain ⟨A9, c9, rfl, hc9, hrd9⟩ := qav hop4
   have c2 := hbp4.cell 2
   have f2 := hbp4.frozen 2
   refine qaq [10, 11, 12] _ _ _ (by kernel_rfl) ?_
   conv => arg 4; simp [pick]
   go_wp2
   go_ret
   have hR := ((Turn.refl (fun k => k = r) p4).setCell (p := ⟨r, 2, none⟩) (.inl rfl) (.slice A9 (L.length + 1) c9)).row hop4 (fun k hk e => qa1 hop4 hbp4 (by decide) (by rw [hk, e]))
   refine ⟨rfl, ⟨.slice A9 (L.length + 1) c9, hbp4.set_ 2 _, ?_, .inl h1, fun k hk => .inr ⟨hvp4 k hk, (hR.lt k hk).2⟩⟩, htp4.setCell (.inl h1) _⟩
   rw [List.length_append, qda]; exact hR
 ·refine wpList_buildSlice rfl _ _ _ rfl #[(0, .agg (shrC x))] rfl (qco x w6) ?_
  go_wp2
  refine stepQ.mk ⟨fun _ => ⟨(hb6.alloc _).cell 2, hx6.alloc _⟩, ?_⟩
  obtain ⟨q1, hq1⟩ := nm (w6.alloc (.cells (shrC x) 75))
  have hbq1 : Blk q1 r 114 #[.int .i64 f, .int .u32 bad, .slice A5 L.length c5] := by rw [hq1]; exact hb6.alloc _
  have hxq1 : Blk q1 w.heap.size 75 (shrC x) := by rw [hq1]; exact hx6.alloc _
  have htq1 : Turn S w q1 := by rw [hq1]; exact ht6.alloc _
  have hsq1 : q1.heap.size = w6.heap.size + 1 := by rw [hq1]; simp
  have hrdq1 : Reads q1 q1.heap.size 11 A5 L.length (shrs L) := by rw [hq1]; exact (hrd6.alloc (Nat.le_refl _) _).more (by simp)
  have hyq1 : Blk q1 w6.heap.size 75 (shrC x) := by rw [hq1]; exact Blk.new _ _ _
  rw [<- hq1]
  clear hq1
  refine qag 1 (by kernel_rfl) rfl ?_
  refine wpList_buildSlice rfl _ _ _ rfl #[] rfl (qgd q1) ?_
  go_wp2
  refine stepQ.mk ⟨fun _ => ⟨(hbq1.alloc _).cell 2, hxq1.alloc _⟩, ?_⟩
  obtain ⟨q2, hq2⟩ := nm (q1.alloc (.cells #[] 75))
  have hbq2 : Blk q2 r 114 #[.int .i64 f, .int .u32 bad, .slice A5 L.length c5] := by rw [hq2]; exact hbq1.alloc _
  have hxq2 : Blk q2 w.heap.size 75 (shrC x) := by rw [hq2]; exact hxq1.alloc _
  have htq2 : Turn S w q2 := by rw [hq2]; exact htq1.alloc _
  have hsq2 : q2.heap.size = q1.heap.size + 1 := by rw [hq2]; simp
  have hrdq2 : Reads q2 q2.heap.size 11 A5 L.length (shrs L) := by rw [hq2]; exact (hrdq1.alloc (Nat.le_refl _) _).more (by simp)
  have hyq2 : Blk q2 w6.heap.size 75 (shrC x) := by rw [hq2]; exact hyq1.alloc _
  have hoq2 : q2.ownsRow 0 75 11 (.slice (some ⟨q1.heap.size, 0, none⟩) 0 0) 0 [] := by rw [hq2]; exact World.ownsRow_made _ _ 0 (Nat.zero_le _) (by decide) rfl
  rw [<- hq2]
  clear hq2
  refine qag 6 (by kernel_rfl) rfl ?_
  refine qao _ rfl (.tmp 23) (.tmp 27) 25 rfl 0 75 i0 _ 11 88 Tryz.underlying25 hi hz0 hz1 hz2 rfl (by decide) (.slice (some ⟨q1.heap.size, 0, none⟩) 0 0) 0 [] rfl hoq2 q2.heap.size A5 L.length c5 (shrs L) rfl hrdq2 (qgJ L) (by unfold maxLen; omega) (by omega) (Nat.zero_le _) ?_
  intro vq3 q3 hoq3 hgq3 hatq3
  simp only [Nat.zero_add, List.nil_append] at hoq3
  go_wp2
  have hbq3 := hbq2.grown hgq3 (fun e => qa1 hoq2 hbq2 (by decide) e.symm)
  have hxq3 := hxq2.grown hgq3 (fun e => by simp [Value.ownBlock] at e; omega)
  have htq3 := htq2.grown hgq3 (fun i e => .inr (by simp [Value.ownBlock] at e; omega))
  have hyq3 := hyq2.grown hgq3 (fun e => by simp [Value.ownBlock] at e; omega)
  have hvq3 : ∀ i, vq3.ownBlock = some i -> w.heap.size < i := by
   intro i hi
   rcases hatq3 with e | e
   ·rw [e] at hi; simp [Value.ownBlock] at hi; omega
   ·rw [e] at hi; simp at hi; omega
  refine stepQ.mk ⟨fun _ => ⟨hbq3.cell 2, hxq3⟩, ?_⟩
  have hsq3 := hgq3.size
  refine qag 9 (by kernel_rfl) rfl ?_
  refine qao _ rfl (.tmp 28) (.tmp 30) 25 rfl 0 75 i0 _ 11 88 Tryz.underlying25 hi hz0 hz1 hz2 rfl (by decide) vq3 L.length (shrs L) rfl hoq3 (w6.heap.size + 1) (some ⟨w6.heap.size, 0, none⟩) 1 1 (shrL x) rfl (qfo hyq3) (qct x) (by unfold maxLen; omega) (by omega) (Nat.zero_le _) ?_
  intro vq4 q4 hoq4 hgq4 hatq4
  go_wp2
  have hbq4 := hbq3.grown hgq4 (fun e => qa1 hoq3 hbq3 (by decide) e.symm)
  have hxq4 := hxq3.grown hgq4 (fun e => by have := hvq3 _ e.symm; omega)
  have htq4 := htq3.grown hgq4 (fun i e => .inr (Nat.le_of_lt (hvq3 i e)))
  refine stepQ.mk ⟨fun _ => ⟨hbq4.cell 2, hxq4⟩, ?_⟩
  have hsq4 := hgq4.size
  have hvq4 : ∀ i, vq4.ownBlock = some i -> w.heap.size <= i := by
   intro i hi
   rcases hatq4 with e | e
   ·rw [e] at hi; exact Nat.le_of_lt (hvq3 i hi)
   ·rw [e] at hi; simp at hi; have := htq4.size; have := htq3.size; omega
  obtain ⟨A9, c9, rfl, hc9, hrd9⟩ := qav hoq4
  have c2 := hbq4.cell 2
  have f2 := hbq4.frozen 2
  refine qaq [10, 11, 12] _ _ _ (by kernel_rfl) ?_
  conv => arg 4; simp [pick]
  go_wp2
  go_ret
  have hR := ((Turn.refl (fun k => k = r) q4).setCell (p := ⟨r, 2, none⟩) (.inl rfl) (.slice A9 (L.length + 1) c9)).row hoq4 (fun k hk e => qa1 hoq4 hbq4 (by decide) (by rw [hk, e]))
  refine ⟨rfl, ⟨.slice A9 (L.length + 1) c9, hbq4.set_ 2 _, ?_, .inl h1, fun k hk => .inr ⟨hvq4 k hk, (hR.lt k hk).2⟩⟩, htq4.setCell (.inl h1) _⟩
  rw [List.length_append, qda]; exact hR
end Go.Proofs.YtomaaidhmccngaaGreatDoor.L7
namespace Go.Proofs.YtomaaidhmccngaaGreatDoor.L7
open Go.RowKit Go.Maps Go.Lib L3 L4 L6
theorem qhD (S : Nat -> Prop) (r : Nat) (f : Int) (bad : Nat) (L : List Shr) (x : Shr) (w : World) (h : Rs w S r f bad L) (hf : inI f) (hx : x.wf) (hL : ∀ y ∈ L, y.wf) (hl : L.length <= 1000000000) :
 Calls Tryz.prog 46 #[.pointer (some ⟨r, 0, none⟩), .agg (shrC x)] w fun e w' => e = .returned (.int .i64 (repE f x.k)) /\ Rs w' (moreB S w w') r f bad (issL f L x) /\ Turn S w w' := by
 rcases Bool.eq_false_or_eq_true (inN f x.k) with hk | hk
 ·by_cases hn : x ∈ L
  ·have e1 : issL f L x = L := by simp [issL, hk, hn]
   have e2 : repE f x.k = 0 := by simp [repE, hk]
   rw [e1, e2]
   refine (qhF S r f bad L x w h hf hx hL hl hk hn).mono ?_
   rintro e w' ⟨rfl, hb⟩
   exact ⟨rfl, (h.below hb).mono fun _ _ => .inl, Turn.of_keep hb⟩
  ·have e1 : issL f L x = L ++ [x] := by simp [issL, hk, hn]
   have e2 : repE f x.k = 0 := by simp [repE, hk]
   rw [e1, e2]
   exact qhE S r f bad L x w h hf hx hL hl hk hn
 ·have e1 : issL f L x = L := by simp [issL, hk]
  have e2 : repE f x.k = 40 := by simp [repE, hk]
  rw [e1, e2]
  refine (qhG S r f bad L x w h hf hk).mono ?_
  rintro e w' ⟨rfl, hb⟩
  exact ⟨rfl, (h.below hb).mono fun _ _ => .inl, Turn.of_keep hb⟩
def holdE (ad : Addr) (k q m : Nat) (s : Stm) (W : World) : Prop := W.cell? (ad.add k) = some (.int .i64 (q : Int)) /\ Blk W m 73 (stmC s)
theorem qf7 (S : Nat -> Prop) (r : Nat) (f : Int) (bad : Nat) (L : List Shr) (s : Stm) (n : Nat) (least : Int) (w : World) (h : Rs w S r f bad L) (hf : inI f) (hbad : bad < 4294967296) (hs : s.wf) (hL : ∀ y ∈ L, y.wf) (hl : L.length <= 1000000000) (hn : n < 4294967296) (hc : checkV f n = 0) :
 Calls Tryz.prog 60 #[.pointer (some ⟨r, 0, none⟩), .agg (stmC s), .int .u32 n, .int .i64 least] w fun e w' => e = .returned (.int .i64 (if firstE f bad L s (bts 0 n) = 0 then (if (cnt n : Int) < least then 61 else 0) else firstE f bad L s (bts 0 n))) /\ Below w.heap.size w w' := by
 have HB := hid h
 obtain ⟨v, hb, hr, h1, h3⟩ := h
 have hb0 : Below w.heap.size w (w.alloc (.cells (stmC s) 73)) := (Below.refl _ _).alloc (Nat.le_refl _) _
 have hlt32 : ∀ j ∈ bts 0 n, j < 32 := fun j hj => qiU (k := 32) hn hj
 have hlM := qej hn
 have hlist := qcn n
 have hcheck := fun w => qa2 f n w hn hf.1 hf.2
 have hcn : cnt n = (bts 0 n).length := (qaP n 0).symm
 rw [hc] at hcheck
 rw [hcn]
 obtain ⟨M, hM⟩ := nm (bts 0 n)
 rw [<- hM] at hlM hlt32 ⊢
 simp only [<- hM] at hlist
 obtain ⟨E, hE⟩ := nm ((if firstE f bad L s M = 0 then (if (M.length : Int) < least then 61 else 0) else firstE f bad L s M))
 rw [<- hE]
 have HE := hid hE
 clear hE
 have HH := hid (And.intro hlist (And.intro hcheck hlt32))
 have c0 := (hb.alloc (.cells (stmC s) 73)).cell 0
 have hcnt := fun (q : Nat) (hq : q < 32) wr (hR : Rs wr S r f bad L) => qdU S r f bad L ⟨q, s⟩ wr hR hf hbad ⟨nat_wf hq, hs⟩ hL hl
 have HC := hid hcnt
 clear hr h3 hlist hcheck hlt32 hM hcn hb hc hcnt
 go_enter Tryz.func60, Tryz.ntmps60
 go_wp2_with (first
  | (go_at_call 110; refine (HH.out.2.1 _).mono ?_; rintro e w1 ⟨rfl, hb1⟩)
  | (go_at_call 111; refine (HH.out.1 _ hn).mono ?_; rintro e w2 ⟨v2, rfl, ho2⟩; obtain ⟨A2, c2, rfl, hr2, hc2⟩ := ho2.form))
 have hb1' : Below w.heap.size w w1 := hb0.trans (hb1.mono hb0.size)
 have hb2 : Below w.heap.size w w2 := hb1'.trans (ho2.below.mono hb1'.size)
 have hx1 : Blk w1 w.heap.size 73 (stmC s) := (Blk.new _ _ _).below hb1 (by simp)
 have hx2 : Blk w2 w.heap.size 73 (stmC s) := hx1.below ho2.below hx1.lt
 clear ho2 hx1 hb1 hb1'
 go_loopw [11] (fun i wr => ∃ k : Nat, i = .int .i64 k /\ k <= M.length /\ Below w2.heap.size w2 wr /\ firstE f bad L s (M.drop k) = firstE f bad L s M) (fun i _ => M.length - (intOf i).toNat)
 case atStart => exact ⟨0, rfl, Nat.zero_le _, Below.refl _ _, rfl⟩
 case round =>
  obtain ⟨k, rfl, hk, hbr, hi⟩ := hrel
  have hbw := nxt hb2 hbr hb2.size
  by_cases hlt : k < M.length
  ·obtain ⟨ad, u, rfl, _, hx, hcl⟩ := (hr2.below hbr).at_ hlt
   obtain rfl := qdp hlt hx
   have hxr := hx2.below hbr hx2.lt
   obtain ⟨q, hq⟩ := nm (M[k])
   have hq32 : q < 32 := by rw [hq]; exact HH.out.2.2 _ (List.getElem_mem hlt)
   have hdr : M.drop k = q :: M.drop (k + 1) := by rw [hq]; exact (List.drop_eq_getElem_cons hlt)
   rw [hdr] at hi
   rw [<- hq] at hcl
   have hcnt := HC.out q hq32
   have hin := qlq f bad L ⟨q, s⟩
   obtain ⟨e, he⟩ := nm (cntE f bad L ⟨q, s⟩)
   simp only [<- he] at hcnt hin
   rw [qd0, <- he] at hi
   have HQ := hid hcnt
   have hw' : IntKind.i64.wrap (k : Int) = (k : Int) := IntWalk.i64_in _ (by omega)
   clear hx hq hdr he hcnt
   by_cases h0 : e = 0
   ·subst h0
    rw [if_pos rfl] at hi
    have HI := hid hi
    clear hi
    go_wp2
    refine qak (holdE ad k q w.heap.size s) [0, 1, 2, 3, 4, 5, 6] (by kernel_rfl) ?_
    refine' qa8 (f := 2) (n := 44) _ (by kernel_rfl) (fun _ x _ _ _ h => by cases x <;> exact h) (⟨hcl, hxr⟩ : holdE ad k q w.heap.size s wr.drew) [0, 1, 2, 3, 4, 5, 6] _ _ (by kernel_rfl) (by kernel_rfl) (by kernel_rfl) (by rfl) (fun W hW => ?hr1) ?hk1
    case hr1 =>
     obtain ⟨qc, qb⟩ := hW
     conv => arg 5; simp [pick]
     repeat (first | still_step | (refine qay rfl _ _ rfl _ rfl _ _ _ _ qb Tryz.underlying73 rfl (by kernel_rfl) ?_) | (refine qeh rfl _ _ rfl #[(0, .int .i64 (q : Int)), (1, .agg (stmC s))] rfl (qbN _ s _) ?_))
     refine wpStill_nil ?_
     rfl
    refine qag 7 (by kernel_rfl) rfl ?_
    go_wp2_with (go_at_call 69; refine (HQ.out _ ((HB.out.below hbw).below (qbp (Below.refl _ _)))).mono ?_; rintro e w3 ⟨rfl, hb3'⟩)
    have hb3 := undrew hb3'
    refine stepQ.mk ⟨fun _ => ⟨(hb3.cell (World.block_lt_of_cell? _ _ hcl)).trans hcl, hxr.below hb3 hxr.lt⟩, ?_⟩
    refine qaq [8] _ _ _ (by kernel_rfl) ?_
    conv => arg 4; simp [pick]
    go_wp2
    go_roundw
    case rel => exact ⟨k + 1, by go_num, by omega, hbr.trans (hb3.mono hbr.size), HI.out⟩
    case measure => simp [intOf]; omega
   ·rw [if_neg h0] at hi
    have h0' : (e == 0) = false := by simpa using h0
    have HI := hid hi
    have H0 := hid h0
    clear hi h0
    go_wp2
    refine qak (holdE ad k q w.heap.size s) [0, 1, 2, 3, 4, 5, 6] (by kernel_rfl) ?_
    refine' qa8 (f := 2) (n := 44) _ (by kernel_rfl) (fun _ x _ _ _ h => by cases x <;> exact h) (⟨hcl, hxr⟩ : holdE ad k q w.heap.size s wr.drew) [0, 1, 2, 3, 4, 5, 6] _ _ (by kernel_rfl) (by kernel_rfl) (by kernel_rfl) (by rfl) (fun W hW => ?hr2) ?hk2
    case hr2 =>
     obtain ⟨qc, qb⟩ := hW
     conv => arg 5; simp [pick]
     repeat (first | still_step | (refine qay rfl _ _ rfl _ rfl _ _ _ _ qb Tryz.underlying73 rfl (by kernel_rfl) ?_) | (refine qeh rfl _ _ rfl #[(0, .int .i64 (q : Int)), (1, .agg (stmC s))] rfl (qbN _ s _) ?_))
     refine wpStill_nil ?_
     rfl
    refine qag 7 (by kernel_rfl) rfl ?_
    go_wp2_with (go_at_call 69; refine (HQ.out _ ((HB.out.below hbw).below (qbp (Below.refl _ _)))).mono ?_; rintro e w3 ⟨rfl, hb3'⟩)
    have hb3 := undrew hb3'
    refine stepQ.mk ⟨fun _ => ⟨(hb3.cell (World.block_lt_of_cell? _ _ hcl)).trans hcl, hxr.below hb3 hxr.lt⟩, ?_⟩
    refine qaq [8] _ _ _ (by kernel_rfl) ?_
    conv => arg 4; simp [pick]
    go_wp2
    go_ret
    exact ⟨by rw [HE.out, <- HI.out, if_neg H0.out]; rfl, nxt hbw hb3 hbw.size⟩
  ·have hkl : M.drop k = [] := List.drop_eq_nil_of_le (by omega)
   rw [hkl] at hi
   have hz : firstE f bad L s M = 0 := hi.symm
   have HI := hid hz
   clear hi hz hkl
   by_cases hle : (M.length : Int) < least
   ·go_wp2_with fail
    go_ret
    exact ⟨by rw [HE.out, HI.out, if_pos rfl, if_pos hle]; rfl, hbw⟩
   ·go_wp2_with fail
    go_ret
    exact ⟨by rw [HE.out, HI.out, if_pos rfl, if_neg (by omega)]; rfl, hbw⟩
theorem qgC (S : Nat -> Prop) (r : Nat) (f : Int) (bad : Nat) (L : List Shr) (s : Stm) (n : Nat) (least : Int) (w : World) (h : Rs w S r f bad L) (hf : inI f) (hn : n < 4294967296) (hc : checkV f n ≠ 0) :
 Calls Tryz.prog 60 #[.pointer (some ⟨r, 0, none⟩), .agg (stmC s), .int .u32 n, .int .i64 least] w fun e w' => e = .returned (.int .i64 (checkV f n)) /\ Below w.heap.size w w' := by
 have hcheck := fun w => qa2 f n w hn hf.1 hf.2
 have hb0 : Below w.heap.size w (w.alloc (.cells (stmC s) 73)) := (Below.refl _ _).alloc (Nat.le_refl _) _
 obtain ⟨e, he⟩ := nm (checkV f n)
 simp only [<- he] at hcheck hc ⊢
 have h0' : (e == 0) = false := by simpa using hc
 have HC := hid hcheck
 obtain ⟨v, hb, hr, h1, h3⟩ := h
 have c0 := (hb.alloc (.cells (stmC s) 73)).cell 0
 clear hr h1 h3 hcheck hb he hc
 go_enter Tryz.func60, Tryz.ntmps60
 go_wp2_with (go_at_call 110; refine (HC.out _).mono ?_; rintro e w1 ⟨rfl, hb1⟩)
 go_ret
 exact ⟨rfl, hb0.trans (hb1.mono hb0.size)⟩
theorem qcJ (S : Nat -> Prop) (r : Nat) (f : Int) (bad : Nat) (L : List Shr) (s : Stm) (n : Nat) (least : Int) (w : World) (h : Rs w S r f bad L) (hf : inI f) (hbad : bad < 4294967296) (hs : s.wf) (hL : ∀ y ∈ L, y.wf) (hl : L.length <= 1000000000) (hn : n < 4294967296) :
 Calls Tryz.prog 60 #[.pointer (some ⟨r, 0, none⟩), .agg (stmC s), .int .u32 n, .int .i64 least] w fun e w' => e = .returned (.int .i64 (enoughE f bad L s n least)) /\ Below w.heap.size w w' := by
 unfold enoughE allE
 by_cases hc : checkV f n = 0
 ·simp only [if_pos hc]; exact qf7 S r f bad L s n least w h hf hbad hs hL hl hn hc
 ·simp only [if_neg hc]; exact qgC S r f bad L s n least w h hf hn hc
theorem qmp (f : Int) (bad : Nat) (w : World) (hf : inI f) (hbad : bad < 4294967296) (he : newE f bad = 0) :
 Calls Tryz.prog 41 #[.int .i64 f, .int .u32 bad] w fun e w' => ∃ g, e = .returned (.tuple #[.pointer (some ⟨g, 0, none⟩), .int .i64 0]) /\ Rs w' (fresh w w') g f bad [] /\ Below w.heap.size w w' := by
 have hcheck := fun w => qa2 f bad w hbad hf.1 hf.2
 have hlist := qcn bad
 have hlM := qej hbad
 have hc : checkV f bad = 0 := by unfold newE at he; split at he <;> assumption
 have hle : ¬ f < ((bts 0 bad).length : Int) := by
  rw [qaP]
  unfold newE at he; rw [if_pos hc] at he
  intro h; rw [if_pos h] at he; cases he
 rw [hc] at hcheck
 obtain ⟨M, hM⟩ := nm (bts 0 bad)
 simp only [<- hM] at hlist hle hlM
 have HH := hid (And.intro hcheck hlist)
 clear hcheck hlist hc he hM
 go_enter Tryz.func41, Tryz.ntmps41
 go_wp2_with (first
  | (go_at_call 110; refine (HH.out.1 _).mono ?_; rintro e w1 ⟨rfl, hb1⟩)
  | (go_at_call 111; refine (HH.out.2 _ hbad).mono ?_; rintro e w2 ⟨v2, rfl, ho2⟩; obtain ⟨A2, c2, rfl, hr2, hc2⟩ := ho2.form))
 go_ret2
 have hb2 : Below w.heap.size w w2 := hb1.trans (ho2.below.mono hb1.size)
 refine ⟨w2.heap.size, rfl, ⟨.slice none 0 0, Blk.new _ _ _, World.ownsRow_nil _ _ _ _, ⟨hb2.size, by simp⟩, by simp [Value.ownBlock]⟩, hb2.alloc hb2.size _⟩
theorem qk7 (f : Int) (bad : Nat) (w : World) (hf : inI f) (hbad : bad < 4294967296) (he : newE f bad ≠ 0) :
 Calls Tryz.prog 41 #[.int .i64 f, .int .u32 bad] w fun e w' => e = .returned (.tuple #[.pointer none, .int .i64 (newE f bad)]) /\ Below w.heap.size w w' := by
 have hcheck := fun w => qa2 f bad w hbad hf.1 hf.2
 have hlist := qcn bad
 have hlM := qej hbad
 unfold newE at he ⊢
 by_cases hc : checkV f bad = 0
 ·rw [if_pos hc] at he ⊢
  rw [hc] at hcheck
  rw [<- qaP bad 0] at he ⊢
  have hle : f < ((bts 0 bad).length : Int) := by
   rcases Int.lt_or_le f ((bts 0 bad).length : Int) with h | h
   ·exact h
   ·rw [if_neg (by omega)] at he; exact absurd rfl he
  rw [if_pos hle]
  obtain ⟨M, hM⟩ := nm (bts 0 bad)
  simp only [<- hM] at hlist hle hlM
  have HH := hid (And.intro hcheck hlist)
  clear hcheck hlist hc he hM
  go_enter Tryz.func41, Tryz.ntmps41
  go_wp2_with (first
   | (go_at_call 110; refine (HH.out.1 _).mono ?_; rintro e w1 ⟨rfl, hb1⟩)
   | (go_at_call 111; refine (HH.out.2 _ hbad).mono ?_; rintro e w2 ⟨v2, rfl, ho2⟩; obtain ⟨A2, c2, rfl, hr2, hc2⟩ := ho2.form))
  go_ret2
  exact ⟨rfl, hb1.trans (ho2.below.mono hb1.size)⟩
 ·rw [if_neg hc] at he ⊢
  obtain ⟨e, hq⟩ := nm (checkV f bad)
  simp only [<- hq] at hcheck he ⊢
  have h0' : (e == 0) = false := by simpa using he
  have HH := hid (And.intro hcheck hlist)
  clear hcheck hlist hc he hq
  go_enter Tryz.func41, Tryz.ntmps41
  go_wp2_with (go_at_call 110; refine (HH.out.1 _).mono ?_; rintro e w1 ⟨rfl, hb1⟩)
  go_ret2
  exact ⟨rfl, hb1⟩
end Go.Proofs.YtomaaidhmccngaaGreatDoor.L7
