/-
  What a register of shares holds, and what each of its calls tells and leaves.
-/
import Derived.Test.YtjkfogjhakcnfaaDoorShare
import Derived.Test.YtjkfogjhakcnfaaDoorFoot
import Derived.Lib.Hide
import Derived.WalkKit
import Derived.Outline
import Derived.BigQuiet
import Derived.Deep.QuietTactic
set_option linter.unusedSimpArgs false
set_option linter.unusedVariables false
namespace Go.Proofs.YtjkfogjhakcnfaaDoor
open Go.RowKit Go.Maps Go.Lib

/-- Is k a replica's number? -/
def inN (f k : Int) : Bool := decide (0 ≤ k ∧ k < more 3 f)
theorem has_full (f k : Int) : hasV (2 ^ (more 3 f).toNat - 1) k = inN f k := by
  obtain ⟨m, hm, hm10⟩ := more_is f
  unfold hasV fitsV inN
  rw [hm, Int.toNat_natCast, Nat.testBit_two_pow_sub_one]
  rw [Bool.eq_iff_iff, Bool.and_eq_true, decide_eq_true_eq, decide_eq_true_eq, decide_eq_true_eq]
  constructor
  · rintro ⟨⟨h0, _⟩, h1⟩; exact ⟨h0, by omega⟩
  · rintro ⟨h0, h1⟩; exact ⟨⟨h0, by omega⟩, by omega⟩
/-- Shares as a slice's cells. -/
def shrs (L : List Shr) : List Value := L.flatMap shrL
theorem shrs_len (L : List Shr) : (shrs L).length = L.length * 11 := by
  induction L with
  | nil => rfl
  | cons x L ih => simp only [shrs, List.flatMap_cons, List.length_append, List.length_cons] at ih ⊢; rw [ih]; simp [shrL, stmL]; omega
theorem shrs_snoc (L : List Shr) (x : Shr) : shrs (L ++ [x]) = shrs L ++ shrL x := by simp [shrs]
theorem shrs_one (L : List Shr) : ∀ u ∈ shrs L, u.oneCell' = true := by
  intro u hu
  simp only [shrs, List.mem_flatMap] at hu
  obtain ⟨x, _, hx⟩ := hu
  exact one_shrL x u hx
/-- In w the struct in block g is a register of F f, these bad ones, the shares L; all its blocks lie in S. -/
def Sg (w : World) (S : Nat → Prop) (g : Nat) (f : Int) (bad : Nat) (L : List Shr) : Prop :=
  ∃ b v D, Blk w g 65 #[.int .i64 f, .int .u32 bad, .map (some b), v] ∧ w.ownsMap Tryd.prog 53 (unitElem (H := Unit)) b L.length D ∧ FitsS D L ∧ w.ownsRow 0 53 11 v L.length (shrs L) ∧
    S g ∧ S b ∧ (∀ k, v.ownBlock = some k → S k)
theorem Sg.lt {w : World} {S : Nat → Prop} {g : Nat} {f : Int} {bad : Nat} {L : List Shr} (h : Sg w S g f bad L) : g < w.heap.size := by obtain ⟨_, _, _, hb, _⟩ := h; exact hb.lt
theorem Sg.mono {w : World} {S S' : Nat → Prop} {g : Nat} {f : Int} {bad : Nat} {L : List Shr} (h : Sg w S g f bad L) (hs : ∀ k, k < w.heap.size → S k → S' k) : Sg w S' g f bad L := by
  obtain ⟨b, v, D, hb, hm, hf, hr, h1, h2, h3⟩ := h
  exact ⟨b, v, D, hb, hm, hf, hr, hs _ hb.lt h1, hs _ hm.lt h2, fun k hk => hs _ (hr.lt k hk).2 (h3 k hk)⟩
/-- What turns other blocks alone leaves a register as it is. -/
theorem Sg.kept {w w' : World} {S T : Nat → Prop} {g : Nat} {f : Int} {bad : Nat} {L : List Shr} (h : Sg w S g f bad L) (ht : Turn T w w') (hd : ∀ k, k < w.heap.size → S k → ¬ T k) : Sg w' S g f bad L := by
  obtain ⟨b, v, D, hb, hm, hf, hr, h1, h2, h3⟩ := h
  exact ⟨b, v, D, ht.blk hb (hd _ hb.lt h1), ht.map hm (hd _ hm.lt h2), hf, ht.row hr (fun k hk => hd _ (hr.lt k hk).2 (h3 k hk)), h1, h2, h3⟩
theorem Sg.below {w w' : World} {S : Nat → Prop} {g : Nat} {f : Int} {bad : Nat} {L : List Shr} (h : Sg w S g f bad L) (hb : Below w.heap.size w w') : Sg w' S g f bad L := h.kept (Turn.of_keep (S := fun _ => False) hb) (fun _ _ _ h => h)
/-- May it sign? -/
def repE (f k : Int) : Int := if inN f k = true then 0 else 40
theorem replica_any (g : Nat) (f k : Int) (w : World) (c0 : w.cell? ⟨g, 0, none⟩ = some (.int .i64 f)) :
    Calls Tryd.prog 34 #[.pointer (some ⟨g, 0, none⟩), .int .i64 k] w fun e w' => e = .returned (.int .i64 (repE f k)) ∧ w = w' := by
  obtain ⟨m, hm, hm10⟩ := more_is f
  have hf := full_any f
  have hh := fun w => has_any (2 ^ (more 3 f).toNat - 1) k w (by have := pow_lt32 (k := (more 3 f).toNat) (by omega); omega)
  rw [has_full] at hh
  obtain ⟨y, hy⟩ : ∃ y, y = 2 ^ (more 3 f).toNat - 1 := ⟨_, rfl⟩
  rw [← hy] at hf hh
  unfold repE
  have HH := Lib.hid (And.intro hf hh)
  clear hf hh hy hm
  rcases Bool.eq_false_or_eq_true (inN f k) with h | h
  all_goals
    rw [h]
    have HH2 := HH.out.2
    rw [h] at HH2
    have H2 := Lib.hid HH2
    clear HH2 h
    go_enter Tryd.func34, Tryd.ntmps34
    go_wp2_with (first
      | (go_at_call 27; refine (HH.out.1 _).mono ?_; rintro e w1 ⟨rfl, rfl⟩)
      | (go_at_call 26; refine (H2.out _).mono ?_; rintro e w1 ⟨rfl, rfl⟩))
    go_ret
    exact ⟨rfl, rfl⟩
/-- What the reads of a register's call meet. -/
def holdS (g b m n : Nat) (x : Shr) (D : DataW Unit) (W : World) : Prop :=
  W.cell? ⟨g, 2, none⟩ = some (.map (some b)) ∧ Blk W m 53 (shrC x) ∧ W.ownsMap Tryd.prog 53 (unitElem (H := Unit)) b n D
/-- What the reads behind the store meet. -/
def holdR (g m : Nat) (x : Shr) (v : Value) (W : World) : Prop := W.cell? ⟨g, 3, none⟩ = some v ∧ Blk W m 53 (shrC x)
set_option maxHeartbeats 1000000 in
set_option maxRecDepth 100000 in
theorem issue_new (S : Nat → Prop) (g : Nat) (f : Int) (bad : Nat) (L : List Shr) (x : Shr) (w : World) (h : Sg w S g f bad L) (hx : x.wf) (hl : L.length ≤ 1000000000) (hk : inN f x.k = true) (hn : x ∉ L) :
    Calls Tryd.prog 16 #[.pointer (some ⟨g, 0, none⟩), .agg (shrC x)] w fun e w' => e = .returned (.int .i64 0) ∧ Sg w' (moreB S w w') g f bad (L ++ [x]) ∧ Turn S w w' := by
  have HB := Lib.hid h
  obtain ⟨b, v, D, hb, hm, hf, hr, h1, h2, h3⟩ := h
  have c0 := (hb.alloc (.cells (shrC x) 53)).cell 0
  have hrep := replica_any g f x.k (w.alloc (.cells (shrC x) 53)) c0
  unfold repE at hrep
  rw [if_pos hk] at hrep
  have s0 : (shrC x)[0]? = some (.int .i64 x.k) := rfl
  have HR := Lib.hid hrep
  have hh : Maps.has D (keyS x) = false := by rw [hf x hx]; simp [hn]
  have HF := Lib.hid hf
  have HRW := Lib.hid hr
  have hgb := blk_ne_map hb hm
  obtain ⟨i0, hi, hz0, hz1, hz2⟩ := info_parts shrInfo
  clear hrep hr hf
  go_enter Tryd.func16, Tryd.ntmps16
  go_wp2_with (go_at_call 34; refine HR.out.mono ?_; rintro e w1 ⟨rfl, rfl⟩)
  have hS : holdS g b w.heap.size L.length x D (w.alloc (.cells (shrC x) 53)).drew := ⟨(hb.alloc _).cell 2, Blk.new _ _ _, hm.alloc _⟩
  refine wp_region_K (holdS g b w.heap.size L.length x D) [0, 1, 2, 3, 4, 5, 6, 7, 8] (by kernel_rfl) ?_
  refine' wpK_reads (f := 3) (n := 42) _ (by kernel_rfl) (fun _ x _ _ _ h => by cases x <;> exact h) hS [0, 1, 2, 3, 4, 5, 6, 7, 8] _ _ (by kernel_rfl) (by kernel_rfl) (by kernel_rfl) (by rfl) (fun W hW => ?hr) ?hk
  case hr =>
    obtain ⟨q2, qb, qm⟩ := hW
    conv => arg 5; simp [pick]
    repeat (first | still_step | (refine wpStill_load_row rfl _ _ rfl _ rfl _ _ _ _ qb Tryd.underlying53 rfl (by kernel_rfl) ?_) | (refine wpStill_look_unit rfl _ _ _ rfl _ _ kdS Tryd.underlying63 (zeroU _) b _ D rfl qm _ _ rfl (key_is x hx) false hh ?_))
    refine wpStill_nil ?_
    rfl
  refine wpK_step 9 (by kernel_rfl) rfl ?_
  go_wp2
  refine stepQ.mk ⟨fun _ => ⟨((hb.alloc _).alloc _).cell 2, (Blk.new _ _ _).alloc _, (hm.alloc _).alloc _⟩, ?_⟩
  refine wpK_step 10 (by kernel_rfl) rfl ?_
  go_wp2
  refine stepQ.mk ⟨fun _ => ⟨((hb.alloc _).alloc _).cell 2, (Blk.new _ _ _).alloc _, (hm.alloc _).alloc _⟩, ?_⟩
  refine wpK_seq [11] _ _ _ (by kernel_rfl) ?_
  conv => arg 4; simp [pick]
  go_wp2
  refine name_world (fun w4 hw4 => ?_)
  have hb4 : Blk w4 g 65 #[.int .i64 f, .int .u32 bad, .map (some b), v] := by rw [hw4]; exact ((hb.alloc _).alloc _)
  have hm4 : w4.ownsMap Tryd.prog 53 (unitElem (H := Unit)) b L.length D := by rw [hw4]; exact ((hm.alloc _).alloc _)
  have hx4 : Blk w4 w.heap.size 53 (shrC x) := by rw [hw4]; exact ((Blk.new _ _ _).alloc _)
  refine wp_region_K (holdS g b w.heap.size L.length x D) [0, 1, 2, 3, 4, 5] (by kernel_rfl) ?_
  refine' wpK_reads (f := 1) (n := 42) _ (by kernel_rfl) (fun _ x _ _ _ h => by cases x <;> exact h) (⟨hb4.cell 2, hx4, hm4⟩ : holdS g b w.heap.size L.length x D w4.drew) [0, 1, 2, 3, 4, 5] _ _ (by kernel_rfl) (by kernel_rfl) (by kernel_rfl) (by rfl) (fun W hW => ?hr6) ?hk6
  case hr6 =>
    obtain ⟨q2, qb, qm⟩ := hW
    conv => arg 5; simp [pick]
    repeat (first | still_step | (refine wpStill_load_row rfl _ _ rfl _ rfl _ _ _ _ qb Tryd.underlying53 rfl (by kernel_rfl) ?_))
    refine wpStill_nil ?_
    rfl
  refine wpK_seq [6] _ _ _ (by kernel_rfl) ?_
  conv => arg 4; simp [pick]
  go_wp2_with (at_mapUpdate
               refine wpList_mapUpdate_own _ rfl _ _ _ 63 rfl 53 81 kdS Tryd.underlying63 _ b L.length D rfl hm4 (by unfold maxLen; omega) _ _ (keyS x) rfl rfl (key_is x hx) (.agg []) [] unitElem_mk ?_
               intro w5 hm5 hg5)
  have hb5 := hb4.drew.grown hg5 (fun e => hgb (by simpa using e))
  have hx5 := hx4.drew.grown hg5 (fun e => blk_ne_map hx4 hm4 (by simpa using e))
  have hr4 : w4.ownsRow 0 53 11 v L.length (shrs L) := by rw [hw4]; exact (HRW.out.alloc _).alloc _
  have hr5 := (show w4.drew.ownsRow 0 53 11 v L.length (shrs L) from hr4).kept hg5 (.inr (row_ne_map hr4 hm4))
  have hvg := own_blk_ne hr5 hb5 (by decide)
  refine wp_region_K (holdR g w.heap.size x v) [0, 1, 2, 3, 4, 5] (by kernel_rfl) ?_
  refine' wpK_reads (f := 5) (n := 42) _ (by kernel_rfl) (fun _ x _ _ _ h => by cases x <;> exact h) (⟨hb5.cell 3, hx5⟩ : holdR g w.heap.size x v w5.drew) [0, 1, 2, 3, 4, 5] _ _ (by kernel_rfl) (by kernel_rfl) (by kernel_rfl) (by rfl) (fun W hW => ?hr7) ?hk7
  case hr7 =>
    obtain ⟨q2, qb⟩ := hW
    conv => arg 5; simp [pick]
    repeat (first | still_step | (refine wpStill_load_row rfl _ _ rfl _ rfl _ _ _ _ qb Tryd.underlying53 rfl (by kernel_rfl) ?_))
    refine wpStill_nil ?_
    rfl
  refine wpK_step 6 (by kernel_rfl) rfl ?_
  refine wpList_buildSlice rfl _ _ _ rfl #[(0, .agg (shrC x))] rfl (slice_shr x w5.drew) ?_
  go_wp2
  refine stepQ.mk ⟨fun _ => ⟨(hb5.alloc _).cell 3, hx5.alloc _⟩, ?_⟩
  refine wpK_step 7 (by kernel_rfl) rfl ?_
  have hrA : (w5.alloc (.cells (shrC x) 53)).drew.ownsRow 0 53 11 v L.length (shrs L) := hr5.alloc _
  have hxA : Reads (w5.alloc (.cells (shrC x) 53)).drew (w5.heap.size + 1) 11 (some ⟨w5.heap.size, 0, none⟩) 1 (shrL x) := reads_shr w5 x _
  refine wpList_append_any _ rfl (.tmp 36) (.tmp 38) 37 rfl 0 53 i0 _ 11 88 Tryd.underlying37 hi hz0 hz1 hz2 rfl (by decide) v L.length (shrs L) rfl hrA (w5.heap.size + 1) (some ⟨w5.heap.size, 0, none⟩) 1 1 (shrL x) rfl hxA (one_shrL x) (by unfold maxLen; omega) (by omega) (Nat.zero_le _) ?_
  intro v6 w6 ho6 hg6 hat6
  go_wp2
  have hb6 := (hb5.alloc (.cells (shrC x) 53)).drew.grown hg6 (fun e => hvg e.symm)
  have hx6 := (hx5.alloc (.cells (shrC x) 53)).drew.grown hg6 (fun e => by
    have := h3 _ e.symm
    have h9 := HRW.out.lt _ e.symm
    omega)
  refine stepQ.mk ⟨fun _ => ⟨hb6.cell 3, hx6⟩, ?_⟩
  obtain ⟨A6, cp6, rfl, hc6, hrd6⟩ := row_reads ho6
  have c3 := hb6.cell 3
  have f3 := hb6.frozen 3
  refine wpK_seq [8, 9, 10] _ _ _ (by kernel_rfl) ?_
  conv => arg 4; simp [pick]
  go_wp2
  go_ret
  have e4 : w4.heap.size = w.heap.size + 2 := by rw [hw4]; simp
  have s5 : w4.heap.size ≤ w5.heap.size := hg5.size
  have hv6 : ∀ k, (Value.slice A6 (L.length + 1) cp6).ownBlock = some k → S k ∨ w.heap.size ≤ k := by
    intro k hk
    rcases hat6 with e | e
    · rw [e] at hk; exact .inl (h3 k hk)
    · rw [e] at hk; simp at hk; right; omega
  have ht4 : Turn S w w4 := by rw [hw4]; exact ((((Turn.refl S w).alloc _).alloc _).drew)
  have ht5 : Turn S w w5 := ht4.drew.grown hg5 (fun i e => by cases e; exact .inl h2)
  have ht6 : Turn S w w6 := (ht5.alloc (.cells (shrC x) 53)).drew.grown hg6 (fun i e => .inl (h3 i e))
  have hm6 := ((show (w5.alloc (.cells (shrC x) 53)).drew.ownsMap Tryd.prog 53 (unitElem (H := Unit)) b (L.length + 1) _ from hm5.alloc _).kept hg6 (fun e => row_ne_map hr5 hm5 e.symm)).setCell (a := ⟨g, 3, none⟩) (fun e => hgb e.symm) (.slice A6 (L.length + 1) cp6)
  have hR7 := ((Turn.refl (fun k => k = g) w6).setCell (p := ⟨g, 3, none⟩) (.inl rfl) (.slice A6 (L.length + 1) cp6)).row ho6 (fun k hk e => own_blk_ne ho6 hb6 (by decide) (by rw [hk, e]))
  refine ⟨rfl, ⟨b, .slice A6 (L.length + 1) cp6, D.put (keyS x) (.agg []), hb6.set_ 3 _, ?_, HF.out.put hm.isMap hx _, ?_, .inl h1, .inl h2, fun k hk => (hv6 k hk).imp id (fun h => ⟨h, (hR7.lt k hk).2⟩)⟩, ht6.setCell (.inl h1) _⟩
  · rw [List.length_append]; exact hm6
  · rw [List.length_append, shrs_snoc]; exact hR7

/-- What Issue tells and leaves. -/
def issL (f : Int) (L : List Shr) (x : Shr) : List Shr := if inN f x.k = true then (if x ∈ L then L else L ++ [x]) else L
theorem Sg.same {w : World} {S : Nat → Prop} {g : Nat} {f : Int} {bad : Nat} {L : List Shr} (h : Sg w S g f bad L) : Sg w (moreB S w w) g f bad L := h.mono fun _ _ => .inl
set_option maxHeartbeats 1000000 in
set_option maxRecDepth 100000 in
theorem issue_old (S : Nat → Prop) (g : Nat) (f : Int) (bad : Nat) (L : List Shr) (x : Shr) (w : World) (h : Sg w S g f bad L) (hx : x.wf) (hk : inN f x.k = true) (hn : x ∈ L) :
    Calls Tryd.prog 16 #[.pointer (some ⟨g, 0, none⟩), .agg (shrC x)] w fun e w' => e = .returned (.int .i64 0) ∧ Below w.heap.size w w' := by
  obtain ⟨b, v, D, hb, hm, hf, hr, h1, h2, h3⟩ := h
  have c0 := (hb.alloc (.cells (shrC x) 53)).cell 0
  have hrep := replica_any g f x.k (w.alloc (.cells (shrC x) 53)) c0
  unfold repE at hrep
  rw [if_pos hk] at hrep
  have s0 : (shrC x)[0]? = some (.int .i64 x.k) := rfl
  have HR := Lib.hid hrep
  have hh : Maps.has D (keyS x) = true := by rw [hf x hx]; simp [hn]
  clear hrep hr hf
  go_enter Tryd.func16, Tryd.ntmps16
  go_wp2_with (go_at_call 34; refine HR.out.mono ?_; rintro e w1 ⟨rfl, rfl⟩)
  refine wp_region_K (holdS g b w.heap.size L.length x D) [0, 1, 2, 3, 4, 5, 6, 7, 8] (by kernel_rfl) ?_
  refine' wpK_reads (f := 3) (n := 42) _ (by kernel_rfl) (fun _ x _ _ _ h => by cases x <;> exact h) (⟨(hb.alloc _).cell 2, Blk.new _ _ _, hm.alloc _⟩ : holdS g b w.heap.size L.length x D (w.alloc (.cells (shrC x) 53)).drew) [0, 1, 2, 3, 4, 5, 6, 7, 8] _ _ (by kernel_rfl) (by kernel_rfl) (by kernel_rfl) (by rfl) (fun W hW => ?hr) ?hk
  case hr =>
    obtain ⟨q2, qb, qm⟩ := hW
    conv => arg 5; simp [pick]
    repeat (first | still_step | (refine wpStill_load_row rfl _ _ rfl _ rfl _ _ _ _ qb Tryd.underlying53 rfl (by kernel_rfl) ?_) | (refine wpStill_look_unit rfl _ _ _ rfl _ _ kdS Tryd.underlying63 (zeroU _) b _ D rfl qm _ _ rfl (key_is x hx) true hh ?_))
    refine wpStill_nil ?_
    rfl
  refine wpK_step 9 (by kernel_rfl) rfl ?_
  go_wp2
  refine stepQ.mk ⟨fun _ => ⟨((hb.alloc _).alloc _).cell 2, (Blk.new _ _ _).alloc _, (hm.alloc _).alloc _⟩, ?_⟩
  refine wpK_step 10 (by kernel_rfl) rfl ?_
  go_wp2
  refine stepQ.mk ⟨fun _ => ⟨((hb.alloc _).alloc _).cell 2, (Blk.new _ _ _).alloc _, (hm.alloc _).alloc _⟩, ?_⟩
  refine wpK_seq [11] _ _ _ (by kernel_rfl) ?_
  conv => arg 4; simp [pick]
  go_wp2
  go_ret
  exact ⟨rfl, below_drew (((Below.refl _ _).alloc (Nat.le_refl _) _).alloc (by simp) _)⟩
theorem issue_out (S : Nat → Prop) (g : Nat) (f : Int) (bad : Nat) (L : List Shr) (x : Shr) (w : World) (h : Sg w S g f bad L) (hk : inN f x.k = false) :
    Calls Tryd.prog 16 #[.pointer (some ⟨g, 0, none⟩), .agg (shrC x)] w fun e w' => e = .returned (.int .i64 40) ∧ Below w.heap.size w w' := by
  obtain ⟨b, v, D, hb, hm, hf, hr, h1, h2, h3⟩ := h
  have c0 := (hb.alloc (.cells (shrC x) 53)).cell 0
  have hrep := replica_any g f x.k (w.alloc (.cells (shrC x) 53)) c0
  unfold repE at hrep
  rw [if_neg (by rw [hk]; decide)] at hrep
  have s0 : (shrC x)[0]? = some (.int .i64 x.k) := rfl
  have HR := Lib.hid hrep
  clear hrep hr hf hm hb c0
  go_enter Tryd.func16, Tryd.ntmps16
  go_wp2_with (go_at_call 34; refine HR.out.mono ?_; rintro e w1 ⟨rfl, rfl⟩)
  go_ret
  exact ⟨rfl, (Below.refl _ _).alloc (Nat.le_refl _) _⟩
theorem issue_any (S : Nat → Prop) (g : Nat) (f : Int) (bad : Nat) (L : List Shr) (x : Shr) (w : World) (h : Sg w S g f bad L) (hx : x.wf) (hl : L.length ≤ 1000000000) :
    Calls Tryd.prog 16 #[.pointer (some ⟨g, 0, none⟩), .agg (shrC x)] w fun e w' => e = .returned (.int .i64 (repE f x.k)) ∧ Sg w' (moreB S w w') g f bad (issL f L x) ∧ Turn S w w' := by
  rcases Bool.eq_false_or_eq_true (inN f x.k) with hk | hk
  · by_cases hn : x ∈ L
    · have e1 : issL f L x = L := by simp [issL, hk, hn]
      have e2 : repE f x.k = 0 := by simp [repE, hk]
      rw [e1, e2]
      refine (issue_old S g f bad L x w h hx hk hn).mono ?_
      rintro e w' ⟨rfl, hb⟩
      exact ⟨rfl, (h.below hb).mono fun _ _ => .inl, Turn.of_keep hb⟩
    · have e1 : issL f L x = L ++ [x] := by simp [issL, hk, hn]
      have e2 : repE f x.k = 0 := by simp [repE, hk]
      rw [e1, e2]
      exact issue_new S g f bad L x w h hx hl hk hn
  · have e1 : issL f L x = L := by simp [issL, hk]
    have e2 : repE f x.k = 40 := by simp [repE, hk]
    rw [e1, e2]
    refine (issue_out S g f bad L x w h hk).mono ?_
    rintro e w' ⟨rfl, hb⟩
    exact ⟨rfl, (h.below hb).mono fun _ _ => .inl, Turn.of_keep hb⟩
end Go.Proofs.YtjkfogjhakcnfaaDoor
