/-
  Which shares count, which sets are enough: contracts of the register's questions; what the caller had stays.
-/
import Derived.Test.YtjkfogjhakcnfaaDoorSign
set_option linter.unusedSimpArgs false
set_option linter.unusedVariables false
namespace Go.Proofs.YtjkfogjhakcnfaaDoor
open Go.RowKit Go.Maps Go.Lib

theorem quiet_left {P : Program} {f : FuncId} {args : Array Value} {w : World} {n : Nat} {v : Value} (h : Calls P f args (w.drewN n) fun e w' => e = .returned v ∧ w.drewN n = w') :
    Calls P f args (w.drewN n) fun e w'' => e = .returned v ∧ ∃ m, w'' = w.drewN m := h.mono fun _ _ ⟨he, hw⟩ => ⟨he, n, hw.symm⟩
/-- Does a share count? The error. -/
def cntE (f : Int) (bad : Nat) (L : List Shr) (x : Shr) : Int := if inN f x.k = true then (if x ∈ L then 0 else if hasV bad x.k = true then 0 else 60) else 40
set_option maxHeartbeats 1000000 in
set_option maxRecDepth 100000 in
theorem counts_old (S : Nat → Prop) (g : Nat) (f : Int) (bad : Nat) (L : List Shr) (x : Shr) (w : World) (h : Sg w S g f bad L) (hx : x.wf) (hbad : bad < 4294967296) (hk : inN f x.k = true) (hn : x ∈ L) :
    Calls Tryd.prog 48 #[.pointer (some ⟨g, 0, none⟩), .agg (shrC x)] w fun e w' => e = .returned (.int .i64 0) ∧ Below w.heap.size w w' := by
  obtain ⟨b, v, D, hb, hm, hf, hr, h1, h2, h3⟩ := h
  have c0 := (hb.alloc (.cells (shrC x) 53)).cell 0
  have hrep := replica_any g f x.k (w.alloc (.cells (shrC x) 53)) c0
  unfold repE at hrep
  rw [if_pos hk] at hrep
  have s0 : (shrC x)[0]? = some (.int .i64 x.k) := rfl
  have HR := Lib.hid hrep
  have hh : Maps.has D (keyS x) = true := by rw [hf x hx]; simp [hn]
  clear hrep hr hf
  go_enter Tryd.func48, Tryd.ntmps48
  go_wp2_with (go_at_call 34; refine HR.out.mono ?_; rintro e w1 ⟨rfl, rfl⟩)
  refine wp_region_K (holdS g b w.heap.size L.length x D) [0, 1, 2, 3, 4, 5, 6, 7, 8] (by kernel_rfl) ?_
  refine' wpK_reads (f := 3) (n := 36) _ (by kernel_rfl) (fun _ x _ _ _ h => by cases x <;> exact h) (⟨(hb.alloc _).cell 2, Blk.new _ _ _, hm.alloc _⟩ : holdS g b w.heap.size L.length x D (w.alloc (.cells (shrC x) 53)).drew) [0, 1, 2, 3, 4, 5, 6, 7, 8] _ _ (by kernel_rfl) (by kernel_rfl) (by kernel_rfl) (by rfl) (fun W hW => ?hr) ?hk
  case hr =>
    obtain ⟨q2, qb, qm⟩ := hW
    conv => arg 5; simp [pick]
    repeat (first | still_step | (refine wpStill_load_row rfl _ _ rfl _ rfl _ _ _ _ qb Tryd.underlying53 rfl (by kernel_rfl) ?_) | (refine wpStill_look_unit rfl _ _ _ rfl _ _ kdS Tryd.underlying63 (zeroU _) b _ D rfl qm _ _ rfl (key_is x hx) true hh ?_))
    refine wpStill_nil ?_
    rfl
  refine wpK_step 9 (by kernel_rfl) rfl ?_
  go_wp2
  refine stepQ.mk ⟨fun _ => ⟨((hb.alloc _).alloc _).cell 2, (Blk.new _ _ _).alloc _, (hm.alloc _).alloc _⟩, ?_⟩
  refine wpK_step 10 (by kernel_rfl) rfl ?_
  go_wp2
  refine stepQ.mk ⟨fun _ => ⟨((hb.alloc _).alloc _).cell 2, (Blk.new _ _ _).alloc _, (hm.alloc _).alloc _⟩, ?_⟩
  refine wpK_seq [11] _ _ _ (by kernel_rfl) ?_
  conv => arg 4; simp [pick]
  go_wp2
  go_quiet (fail)
  go_wp2
  go_ret
  exact ⟨rfl, below_drewN (below_drew (((Below.refl _ _).alloc (Nat.le_refl _) _).alloc (by simp) _)) _⟩
set_option maxHeartbeats 1000000 in
set_option maxRecDepth 100000 in
theorem counts_bad (S : Nat → Prop) (g : Nat) (f : Int) (bad : Nat) (L : List Shr) (x : Shr) (w : World) (h : Sg w S g f bad L) (hx : x.wf) (hbad : bad < 4294967296) (hk : inN f x.k = true) (hn : x ∉ L) (hv : hasV bad x.k = true) :
    Calls Tryd.prog 48 #[.pointer (some ⟨g, 0, none⟩), .agg (shrC x)] w fun e w' => e = .returned (.int .i64 0) ∧ Below w.heap.size w w' := by
  obtain ⟨b, v, D, hb, hm, hf, hr, h1, h2, h3⟩ := h
  have c0 := (hb.alloc (.cells (shrC x) 53)).cell 0
  have hrep := replica_any g f x.k (w.alloc (.cells (shrC x) 53)) c0
  unfold repE at hrep
  rw [if_pos hk] at hrep
  have s0 : (shrC x)[0]? = some (.int .i64 x.k) := rfl
  have HR := Lib.hid hrep
  have hh : Maps.has D (keyS x) = false := by rw [hf x hx]; simp [hn]
  clear hrep hr hf
  go_enter Tryd.func48, Tryd.ntmps48
  go_wp2_with (go_at_call 34; refine HR.out.mono ?_; rintro e w1 ⟨rfl, rfl⟩)
  refine wp_region_K (holdS g b w.heap.size L.length x D) [0, 1, 2, 3, 4, 5, 6, 7, 8] (by kernel_rfl) ?_
  refine' wpK_reads (f := 3) (n := 36) _ (by kernel_rfl) (fun _ x _ _ _ h => by cases x <;> exact h) (⟨(hb.alloc _).cell 2, Blk.new _ _ _, hm.alloc _⟩ : holdS g b w.heap.size L.length x D (w.alloc (.cells (shrC x) 53)).drew) [0, 1, 2, 3, 4, 5, 6, 7, 8] _ _ (by kernel_rfl) (by kernel_rfl) (by kernel_rfl) (by rfl) (fun W hW => ?hr) ?hk
  case hr =>
    obtain ⟨q2, qb, qm⟩ := hW
    conv => arg 5; simp [pick]
    repeat (first | still_step | (refine wpStill_load_row rfl _ _ rfl _ rfl _ _ _ _ qb Tryd.underlying53 rfl (by kernel_rfl) ?_) | (refine wpStill_look_unit rfl _ _ _ rfl _ _ kdS Tryd.underlying63 (zeroU _) b _ D rfl qm _ _ rfl (key_is x hx) false hh ?_))
    refine wpStill_nil ?_
    rfl
  refine wpK_step 9 (by kernel_rfl) rfl ?_
  go_wp2
  refine stepQ.mk ⟨fun _ => ⟨((hb.alloc _).alloc _).cell 2, (Blk.new _ _ _).alloc _, (hm.alloc _).alloc _⟩, ?_⟩
  refine wpK_step 10 (by kernel_rfl) rfl ?_
  go_wp2
  refine stepQ.mk ⟨fun _ => ⟨((hb.alloc _).alloc _).cell 2, (Blk.new _ _ _).alloc _, (hm.alloc _).alloc _⟩, ?_⟩
  refine wpK_seq [11] _ _ _ (by kernel_rfl) ?_
  conv => arg 4; simp [pick]
  go_wp2
  refine name_world (fun w4 hw4 => ?_)
  have c1 : w4.cell? ⟨g, 1, none⟩ = some (.int .u32 bad) := by rw [hw4]; exact ((hb.alloc _).alloc _).cell 1
  have d0 : w4.cell? ⟨w.heap.size, 0, none⟩ = some (.int .i64 x.k) := by rw [hw4]; exact ((Blk.new w 53 (shrC x)).alloc _).cell 0
  have hb4 : Below w.heap.size w w4 := by rw [hw4]; exact below_drew (((Below.refl _ _).alloc (Nat.le_refl _) _).alloc (by simp) _)
  have hq := fun w => has_any bad x.k w hbad
  rw [hv] at hq
  have HQ := Lib.hid hq
  clear hq hw4 c0 s0 hb
  go_quiet ((go_at_call 26; exact quiet_left (HQ.out _)))
  go_wp2
  go_ret
  exact ⟨rfl, below_drewN hb4 _⟩
set_option maxHeartbeats 1000000 in
set_option maxRecDepth 100000 in
theorem counts_forged (S : Nat → Prop) (g : Nat) (f : Int) (bad : Nat) (L : List Shr) (x : Shr) (w : World) (h : Sg w S g f bad L) (hx : x.wf) (hbad : bad < 4294967296) (hk : inN f x.k = true) (hn : x ∉ L) (hv : hasV bad x.k = false) :
    Calls Tryd.prog 48 #[.pointer (some ⟨g, 0, none⟩), .agg (shrC x)] w fun e w' => e = .returned (.int .i64 60) ∧ Below w.heap.size w w' := by
  obtain ⟨b, v, D, hb, hm, hf, hr, h1, h2, h3⟩ := h
  have c0 := (hb.alloc (.cells (shrC x) 53)).cell 0
  have hrep := replica_any g f x.k (w.alloc (.cells (shrC x) 53)) c0
  unfold repE at hrep
  rw [if_pos hk] at hrep
  have s0 : (shrC x)[0]? = some (.int .i64 x.k) := rfl
  have HR := Lib.hid hrep
  have hh : Maps.has D (keyS x) = false := by rw [hf x hx]; simp [hn]
  clear hrep hr hf
  go_enter Tryd.func48, Tryd.ntmps48
  go_wp2_with (go_at_call 34; refine HR.out.mono ?_; rintro e w1 ⟨rfl, rfl⟩)
  refine wp_region_K (holdS g b w.heap.size L.length x D) [0, 1, 2, 3, 4, 5, 6, 7, 8] (by kernel_rfl) ?_
  refine' wpK_reads (f := 3) (n := 36) _ (by kernel_rfl) (fun _ x _ _ _ h => by cases x <;> exact h) (⟨(hb.alloc _).cell 2, Blk.new _ _ _, hm.alloc _⟩ : holdS g b w.heap.size L.length x D (w.alloc (.cells (shrC x) 53)).drew) [0, 1, 2, 3, 4, 5, 6, 7, 8] _ _ (by kernel_rfl) (by kernel_rfl) (by kernel_rfl) (by rfl) (fun W hW => ?hr) ?hk
  case hr =>
    obtain ⟨q2, qb, qm⟩ := hW
    conv => arg 5; simp [pick]
    repeat (first | still_step | (refine wpStill_load_row rfl _ _ rfl _ rfl _ _ _ _ qb Tryd.underlying53 rfl (by kernel_rfl) ?_) | (refine wpStill_look_unit rfl _ _ _ rfl _ _ kdS Tryd.underlying63 (zeroU _) b _ D rfl qm _ _ rfl (key_is x hx) false hh ?_))
    refine wpStill_nil ?_
    rfl
  refine wpK_step 9 (by kernel_rfl) rfl ?_
  go_wp2
  refine stepQ.mk ⟨fun _ => ⟨((hb.alloc _).alloc _).cell 2, (Blk.new _ _ _).alloc _, (hm.alloc _).alloc _⟩, ?_⟩
  refine wpK_step 10 (by kernel_rfl) rfl ?_
  go_wp2
  refine stepQ.mk ⟨fun _ => ⟨((hb.alloc _).alloc _).cell 2, (Blk.new _ _ _).alloc _, (hm.alloc _).alloc _⟩, ?_⟩
  refine wpK_seq [11] _ _ _ (by kernel_rfl) ?_
  conv => arg 4; simp [pick]
  go_wp2
  refine name_world (fun w4 hw4 => ?_)
  have c1 : w4.cell? ⟨g, 1, none⟩ = some (.int .u32 bad) := by rw [hw4]; exact ((hb.alloc _).alloc _).cell 1
  have d0 : w4.cell? ⟨w.heap.size, 0, none⟩ = some (.int .i64 x.k) := by rw [hw4]; exact ((Blk.new w 53 (shrC x)).alloc _).cell 0
  have hb4 : Below w.heap.size w w4 := by rw [hw4]; exact below_drew (((Below.refl _ _).alloc (Nat.le_refl _) _).alloc (by simp) _)
  have hq := fun w => has_any bad x.k w hbad
  rw [hv] at hq
  have HQ := Lib.hid hq
  clear hq hw4 c0 s0 hb
  go_quiet ((go_at_call 26; exact quiet_left (HQ.out _)))
  go_wp2
  go_ret
  exact ⟨rfl, below_drewN hb4 _⟩
theorem counts_out (S : Nat → Prop) (g : Nat) (f : Int) (bad : Nat) (L : List Shr) (x : Shr) (w : World) (h : Sg w S g f bad L) (hk : inN f x.k = false) :
    Calls Tryd.prog 48 #[.pointer (some ⟨g, 0, none⟩), .agg (shrC x)] w fun e w' => e = .returned (.int .i64 40) ∧ Below w.heap.size w w' := by
  obtain ⟨b, v, D, hb, hm, hf, hr, h1, h2, h3⟩ := h
  have c0 := (hb.alloc (.cells (shrC x) 53)).cell 0
  have hrep := replica_any g f x.k (w.alloc (.cells (shrC x) 53)) c0
  unfold repE at hrep
  rw [if_neg (by rw [hk]; decide)] at hrep
  have s0 : (shrC x)[0]? = some (.int .i64 x.k) := rfl
  have HR := Lib.hid hrep
  clear hrep hr hf hm hb c0
  go_enter Tryd.func48, Tryd.ntmps48
  go_wp2_with (go_at_call 34; refine HR.out.mono ?_; rintro e w1 ⟨rfl, rfl⟩)
  go_ret
  exact ⟨rfl, (Below.refl _ _).alloc (Nat.le_refl _) _⟩
theorem counts_any (S : Nat → Prop) (g : Nat) (f : Int) (bad : Nat) (L : List Shr) (x : Shr) (w : World) (h : Sg w S g f bad L) (hx : x.wf) (hbad : bad < 4294967296) :
    Calls Tryd.prog 48 #[.pointer (some ⟨g, 0, none⟩), .agg (shrC x)] w fun e w' => e = .returned (.int .i64 (cntE f bad L x)) ∧ Below w.heap.size w w' := by
  unfold cntE
  rcases Bool.eq_false_or_eq_true (inN f x.k) with hk | hk
  · rw [if_pos hk]
    by_cases hn : x ∈ L
    · rw [if_pos hn]; exact counts_old S g f bad L x w h hx hbad hk hn
    · rw [if_neg hn]
      rcases Bool.eq_false_or_eq_true (hasV bad x.k) with hv | hv
      · rw [if_pos hv]; exact counts_bad S g f bad L x w h hx hbad hk hn hv
      · rw [if_neg (by rw [hv]; decide)]; exact counts_forged S g f bad L x w h hx hbad hk hn hv
  · rw [if_neg (by rw [hk]; decide)]; exact counts_out S g f bad L x w h hk
end Go.Proofs.YtjkfogjhakcnfaaDoor
