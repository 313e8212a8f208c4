/-
  The next certificate of a reader, right or not, by the code: whatever is left of its bytes.
-/
import Derived.Test.YtkjkkbionlmohaaCheckC
set_option linter.unusedSimpArgs false
set_option linter.unusedVariables false
namespace Go.Proofs.Ytkjkkbionlmohaa
open Go.RowKit Go.Lib
open L3 (Rdr leaves numS failS rdN)

theorem rdr_alloc {w : World} {g : Nat} {p : List UInt8 × Int} (h : Rdr w g p) (o : Obj) : Rdr (w.alloc o) g p := by
  have hl := h.lt
  obtain ⟨A, c, hb, hr, h3⟩ := h
  exact ⟨A, c, hb.alloc o, hr.alloc (by omega) o, h3⟩
theorem rdr_set {w : World} {g G i : Nat} {p : List UInt8 × Int} (h : Rdr w g p) (hG : g < G) (u : Value) : Rdr (w.setCell ⟨G, i, none⟩ u) g p := by
  obtain ⟨A, c, hb, hr, h3⟩ := h
  exact ⟨A, c, hb.far (by show g ≠ G; omega) u, hr.setCell (by show g ≤ G; omega) u, h3⟩
theorem rdr_below {w w' : World} {g B : Nat} {p : List UInt8 × Int} (h : Rdr w g p) (hb : Below B w w') (hg : g < B) : Rdr w' g p := by
  obtain ⟨A, c, h1, h2, h3⟩ := h
  exact ⟨A, c, h1.below hb hg, h2.below (hb.mono (by omega)), h3⟩
theorem rdr_row {w : World} {g G : Nat} {p : List UInt8 × Int} (h : Rdr w g p) (hG : g < G) (cs : Array Value) : Rdr (w.setRow G cs) g p := by
  refine rdr_below h (B := g + 1) ⟨rfl, rfl, rfl, by simp [World.setRow], fun i hi => ?_⟩ (Nat.lt_succ_self _)
  have : ¬ G = i := by omega
  simp [World.setRow, Array.getElem?_modify, this]
theorem grown_new {w W : World} {g : Nat} (h : w.grownBy W (some g)) {G i : Nat} (hG : w.heap.size ≤ G) (u : Value) : w.grownBy (W.setCell ⟨G, i, none⟩ u) (some g) :=
  ⟨h.os, h.tape, h.output, by simpa [World.setCell] using h.size, fun k hk hne => (Below.heap_setCell W ⟨G, i, none⟩ u k (by show k ≠ G; omega)).trans (h.block k hk hne)⟩
theorem grown_row {w W : World} {g : Nat} (h : w.grownBy W (some g)) {G : Nat} (hG : w.heap.size ≤ G) (cs : Array Value) : w.grownBy (W.setRow G cs) (some g) := by
  refine ⟨h.os, h.tape, h.output, by simpa [World.setRow] using h.size, fun k hk hne => ?_⟩
  have : ¬ G = k := by omega
  rw [← h.block k hk hne]
  simp [World.setRow, Array.getElem?_modify, this]
/-- The number that is read. -/
def numV (p : List UInt8 × Int) : Int := ((rdN 0 0 p.1).1 : Int)
theorem num_at (p : List UInt8 × Int) : 0 ≤ numV p ∧ numV p ≤ 4611686018427387904 := by
  unfold numV
  obtain ⟨k, s, e, hq⟩ : ∃ k s e, rdN 0 0 p.1 = (k, s, e) := ⟨_, _, _, rfl⟩
  rw [hq]
  by_cases he : e = 0
  · subst he
    have := (L3.rd_back0 hq).2.2.2
    constructor
    · exact Int.natCast_nonneg _
    · show (k : Int) ≤ _; omega
  · have := ((L3.rd_err _ _ _ _ _ _ hq).2 he).1
    subst this
    constructor
    · exact Int.natCast_nonneg _
    · show ((0 : Nat) : Int) ≤ _; omega
/-- A number, cut where no certificate has it. -/
def fitV (n : Int) : Int := if 2147483647 < n then -1 else n
def fitU (n : Int) : Nat := if 2147483647 < n then 4294967295 else n.toNat
theorem fit_u (n : Int) (h : 0 ≤ n) : fitV n % 4294967296 = (fitU n : Int) := by
  unfold fitV fitU
  split
  · decide
  · omega
theorem fitV_in (n : Int) (h : 0 ≤ n) : inI (fitV n) := by unfold fitV inI; split <;> omega
theorem fitU_in (n : Int) (h : 0 ≤ n) : inU (fitU n) := by unfold fitU inU; split <;> omega
theorem fit_any (n : Int) (w : World) : Calls Try.prog 36 #[.int .i64 n] w fun e w' => e = .returned (.int .i64 (fitV n)) ∧ w = w' := by
  by_cases h : 2147483647 < n
  · have e : fitV n = -1 := if_pos h
    rw [e]
    clear e
    go_enter Try.func36, Try.ntmps36
    go_wp2
    go_ret
    exact ⟨rfl, rfl⟩
  · have e : fitV n = n := if_neg h
    rw [e]
    clear e
    go_enter Try.func36, Try.ntmps36
    go_wp2
    go_ret
    exact ⟨rfl, rfl⟩
/-- A reader behind so many numbers. -/
def nS : Nat → List UInt8 × Int → List UInt8 × Int
  | 0, p => p
  | k + 1, p => numS (nS k p)
/-- What is read, and the reader behind it. -/
def readC (p : List UInt8 × Int) : Crt × (List UInt8 × Int) :=
  if fitV (numV p) = 1 then (⟨1, fitV (numV (nS 1 p)), fitV (numV (nS 2 p)), fitV (numV (nS 3 p)), 0, 0, fitU (numV (nS 4 p)), 0⟩, nS 5 p)
  else if fitV (numV p) = 2 then (⟨2, fitV (numV (nS 1 p)), fitV (numV (nS 2 p)), fitV (numV (nS 3 p)), fitV (numV (nS 5 p)), fitV (numV (nS 6 p)), fitU (numV (nS 4 p)), fitU (numV (nS 7 p))⟩, nS 8 p)
  else (⟨fitV (numV p), 0, 0, 0, 0, 0, 0, 0⟩, nS 1 p)
theorem wf_mk {k b v r h a : Int} {s o : Nat} (h0 : inI k) (h1 : inI b) (h2 : inI v) (h3 : inI r) (h4 : inI h) (h5 : inI a) (h6 : inU s) (h7 : inU o) : Crt.wf ⟨k, b, v, r, h, a, s, o⟩ := ⟨h0, h1, h2, h3, h4, h5, h6, h7⟩
theorem readC_wf (p : List UInt8 × Int) : (readC p).1.wf := by
  have f := fun k => fitV_in (numV (nS k p)) (num_at _).1
  have u := fun k => fitU_in (numV (nS k p)) (num_at _).1
  have f0 : inI (fitV (numV p)) := fitV_in _ (num_at p).1
  have i0 : inI 0 := by unfold inI; omega
  have i1 : inI 1 := by unfold inI; omega
  have i2 : inI 2 := by unfold inI; omega
  have u0 : inU 0 := by unfold inU; omega
  have f1 := f 1
  have f2 := f 2
  have f3 := f 3
  have f5 := f 5
  have f6 := f 6
  have u4 := u 4
  have u7 := u 7
  clear f u
  unfold readC
  generalize fitV (numV p) = z0 at *
  generalize fitV (numV (nS 1 p)) = z1 at *
  generalize fitV (numV (nS 2 p)) = z2 at *
  generalize fitV (numV (nS 3 p)) = z3 at *
  generalize fitV (numV (nS 5 p)) = z5 at *
  generalize fitV (numV (nS 6 p)) = z6 at *
  generalize fitU (numV (nS 4 p)) = z4 at *
  generalize fitU (numV (nS 7 p)) = z7 at *
  generalize nS 5 p = s5
  generalize nS 8 p = s8
  generalize nS 1 p = s1
  by_cases h1 : z0 = 1
  · rw [if_pos h1]; exact wf_mk i1 f1 f2 f3 i0 i0 u4 u0
  · rw [if_neg h1]
    by_cases h2 : z0 = 2
    · rw [if_pos h2]; exact wf_mk i2 f1 f2 f3 f5 f6 u4 u7
    · rw [if_neg h2]; exact wf_mk f0 i0 i0 i0 i0 i0 u0 u0
theorem build_kd (k : Int) (w : World) : (Instr.build 24 #[(0, .int .i64 k)]).run Try.prog w = .ok (.agg (crtC ⟨k, 0, 0, 0, 0, 0, 0, 0⟩)) w := run_build w _ _ _ (by kernel_rfl)
/-- What holds of the world while a certificate is read. -/
def TakeAt (w : World) (g G : Nat) (t : Crt) (q : List UInt8 × Int) (W : World) : Prop :=
  Rdr W g q ∧ L3.Blk W w.heap.size 24 (crtC zeroC) ∧ L3.Blk W G 24 (crtC t) ∧ w.grownBy W (some g) ∧ g < w.heap.size ∧ w.heap.size < G
section
variable {w W W' : World} {g G : Nat} {t : Crt} {q q' : List UInt8 × Int}
theorem TakeAt.rdr (h : TakeAt w g G t q W) : Rdr W g q := h.1
theorem TakeAt.blkR (h : TakeAt w g G t q W) : L3.Blk W w.heap.size 24 (crtC zeroC) := h.2.1
theorem TakeAt.blkG (h : TakeAt w g G t q W) : L3.Blk W G 24 (crtC t) := h.2.2.1
theorem TakeAt.grown (h : TakeAt w g G t q W) : w.grownBy W (some g) := h.2.2.2.1
theorem TakeAt.lt (h : TakeAt w g G t q W) : g < w.heap.size := h.2.2.2.2.1
theorem TakeAt.next (h : TakeAt w g G t q W) (hl : leaves g q' W W') : TakeAt w g G t q' W' := by
  have hg := h.2.2.2.2
  exact ⟨hl.1, h.2.1.grown hl.2 (fun e => by injection e with e; omega), h.2.2.1.grown hl.2 (fun e => by injection e with e; omega), L3.grown_trans h.2.2.2.1 hl.2, hg⟩
theorem TakeAt.below (h : TakeAt w g G t q W) (hb : Below W.heap.size W W') : TakeAt w g G t q W' := by
  have hgr := h.2.2.2.1
  exact ⟨rdr_below h.1 hb h.1.lt, h.2.1.below hb h.2.1.lt, h.2.2.1.below hb h.2.2.1.lt, ⟨hb.os.trans hgr.os, hb.tape.trans hgr.tape, hb.output.trans hgr.output, Nat.le_trans hgr.size hb.size, fun k hk hne => (hb.block k (Nat.lt_of_lt_of_le hk hgr.size)).trans (hgr.block k hk hne)⟩, h.2.2.2.2⟩
theorem TakeAt.set_ (h : TakeAt w g G t q W) (i : Nat) (u : Value) (t' : Crt) (he : (crtC t).setIfInBounds i u = crtC t') : TakeAt w g G t' q (W.setCell ⟨G, i, none⟩ u) := by
  have hg := h.2.2.2.2
  refine ⟨rdr_set h.1 (by omega) u, h.2.1.far (by show w.heap.size ≠ G; omega) u, ?_, grown_new h.2.2.2.1 (by omega) u, hg⟩
  rw [← he]
  exact h.2.2.1.set_ i u
theorem TakeAt.mk {w2 : World} (h : Rdr w g q') (hl : leaves g q (w.alloc (.cells (crtC zeroC) 24)) w2) (t : Crt) : TakeAt w g w2.heap.size t q (w2.alloc (.cells (crtC t) 24)) := by
  have hg := h.lt
  have hs := hl.2.size
  simp only [World.alloc, Array.size_push] at hs
  refine ⟨rdr_alloc hl.1 _, ((box_new w _ zeroC).grown hl.2 (fun e => by injection e with e; omega)).alloc _, box_new _ _ _, L3.grown_trans (L3.grown_trans (World.grownBy_alloc w _ _) hl.2) (World.grownBy_alloc _ _ _), hg, by omega⟩
end
set_option maxHeartbeats 4000000 in
set_option maxRecDepth 100000 in
theorem read_any (g : Nat) (p : List UInt8 × Int) (w : World) (h : Rdr w g p) :
    Calls Try.prog 25 #[.pointer (some ⟨g, 0, none⟩)] w fun e w' => e = .returned (.agg (crtC (readC p).1)) ∧ leaves g (readC p).2 w w' := by
  have hR := Lib.hid (rdr_alloc h (.cells (crtC zeroC) 24))
  have hM := Lib.hid (fun w2 (hl : leaves g (nS 1 p) (w.alloc (.cells (crtC zeroC) 24)) w2) (t : Crt) => TakeAt.mk h hl t)
  obtain ⟨N, hN⟩ : ∃ N : Nat → Int, N = fun k => numV (nS k p) := ⟨_, rfl⟩
  obtain ⟨V, hV⟩ : ∃ V : Nat → Int, V = fun k => fitV (N k) := ⟨_, rfl⟩
  obtain ⟨U, hU⟩ : ∃ U : Nat → Nat, U = fun k => fitU (N k) := ⟨_, rfl⟩
  have hX : readC p = if V 0 = 1 then (⟨1, V 1, V 2, V 3, 0, 0, U 4, 0⟩, nS 5 p) else if V 0 = 2 then (⟨2, V 1, V 2, V 3, V 5, V 6, U 4, U 7⟩, nS 8 p) else (⟨V 0, 0, 0, 0, 0, 0, 0, 0⟩, nS 1 p) := by rw [hV, hU, hN]; rfl
  have HN : Hid (∀ k W, Rdr W g (nS k p) → Calls Try.prog 37 #[.pointer (some ⟨g, 0, none⟩)] W fun e w' => e = .returned (.int .i64 (N k)) ∧ leaves g (nS (k + 1) p) W w') := Lib.hid (fun k W hW => by rw [hN]; exact L3.rnum_any g (nS k p) W hW)
  have HF : Hid (∀ k W, Calls Try.prog 36 #[.int .i64 (N k)] W fun e w' => e = .returned (.int .i64 (V k)) ∧ W = w') := Lib.hid (fun k W => by rw [hV]; exact fit_any (N k) W)
  have hu : ∀ k, V k % 4294967296 = (U k : Int) := fun k => by rw [hV, hU]; exact fit_u (N k) (by rw [hN]; exact (num_at _).1)
  have hu4 := hu 4
  have hu7 := hu 7
  clear hN hV hU hu h
  rw [hX]
  clear hX
  by_cases hk : V 0 = 1
  · rw [if_pos hk]
    go_enter Try.func25, Try.ntmps25
    go_upto_region 2 with (first
      | (go_at_call 37; refine (HN.out 0 _ hR.out).mono ?_; rintro e w1 ⟨rfl, hl1⟩)
      | (go_at_call 36; refine (HF.out 0 _).mono ?_; rintro e w1' ⟨rfl, rfl⟩)
      | (refine wpList_build rfl _ _ rfl #[(0, .int .i64 (1))] rfl (build_kd _ _) ?_)
      | (refine wpList_store_new rfl _ _ _ rfl _ (crtC ⟨1, 0, 0, 0, 0, 0, 0, 0⟩) rfl rfl _ _ crtInfo rfl (crtC_ones _) ?_))
    have hA := hM.out _ hl1 ⟨1, 0, 0, 0, 0, 0, 0, 0⟩
    obtain ⟨G, hG⟩ : ∃ G, G = w1.heap.size := ⟨_, rfl⟩
    rw [← hG] at hA
    rw [← hG]
    refine name_world (fun w2 hw2 => ?_)
    rw [← hw2] at hA
    clear hG hl1 hw2 hM hR
    have d0 : w2.cell? ⟨G, 0, none⟩ = some (.int .i64 1) := hA.blkG.cell 0
    have hA1 := hA
    clear hA hk
    go_upto_region 4 with (first
      | (go_at_call 37; (with_reducible refine (HN.out 1 _ hA1.rdr).mono ?_); rintro e x1 ⟨rfl, hl1⟩; have hA2 := hA1.next hl1)
      | (go_at_call 37; (with_reducible refine (HN.out 2 _ hA2.rdr).mono ?_); rintro e x2 ⟨rfl, hl2⟩; have hA3 := hA2.next hl2)
      | (go_at_call 37; (with_reducible refine (HN.out 3 _ hA3.rdr).mono ?_); rintro e x3 ⟨rfl, hl3⟩; have hA4 := hA3.next hl3)
      | (go_at_call 37; (with_reducible refine (HN.out 4 _ hA4.rdr).mono ?_); rintro e x4 ⟨rfl, hl4⟩; have hA5 := hA4.next hl4; have f1 := hA5.blkG.frozen 1; have f2 := hA5.blkG.frozen 2; have f3 := hA5.blkG.frozen 3; have f6 := hA5.blkG.frozen 6; have b1 : x4.cell? ⟨G, 1, none⟩ = some (.int .i64 0) := hA5.blkG.cell 1; have b2 : x4.cell? ⟨G, 2, none⟩ = some (.int .i64 0) := hA5.blkG.cell 2; have b3 : x4.cell? ⟨G, 3, none⟩ = some (.int .i64 0) := hA5.blkG.cell 3; have b6 : x4.cell? ⟨G, 6, none⟩ = some (.int .u32 0) := hA5.blkG.cell 6)
      | (go_at_call 36; first | ((with_reducible refine (HF.out 1 _).mono ?_); rintro e w1' ⟨rfl, rfl⟩) | ((with_reducible refine (HF.out 2 _).mono ?_); rintro e w1' ⟨rfl, rfl⟩) | ((with_reducible refine (HF.out 3 _).mono ?_); rintro e w1' ⟨rfl, rfl⟩) | ((with_reducible refine (HF.out 4 _).mono ?_); rintro e w1' ⟨rfl, rfl⟩)))
    have hB := (((hA5.set_ 1 (.int .i64 (V 1)) ⟨1, V 1, 0, 0, 0, 0, 0, 0⟩ rfl).set_ 2 (.int .i64 (V 2)) ⟨1, V 1, V 2, 0, 0, 0, 0, 0⟩ rfl).set_ 3 (.int .i64 (V 3)) ⟨1, V 1, V 2, V 3, 0, 0, 0, 0⟩ rfl).set_ 6 (.int .u32 (U 4)) ⟨1, V 1, V 2, V 3, 0, 0, U 4, 0⟩ rfl
    clear d0 hA1 hA2 hA3 hA4 hA5 hl1 hl2 hl3 hl4 f1 f2 f3 f6 b1 b2 b3 b6
    refine name_world (fun w4 hw4 => ?_)
    rw [← hw4] at hB
    clear hw4
    have d0 : w4.cell? ⟨G, 0, none⟩ = some (.int .i64 1) := hB.blkG.cell 0
    go_wp2_with (first
      | (refine wpList_row_at rfl _ _ rfl G rfl _ _ _ _ hB.blkG Try.underlying24 rfl crtInfo ?_)
      | (refine wpList_store_row rfl _ _ _ rfl w.heap.size (crtC ⟨1, V 1, V 2, V 3, 0, 0, U 4, 0⟩) rfl rfl _ _ hB.blkR crtInfo rfl (crtC_ones _) ?_))
    (try simp only [Exit.inBlock, Exit.then])
    refine bodyPost_ret (v := .agg (crtC ⟨1, V 1, V 2, V 3, 0, 0, U 4, 0⟩)) (results_row rfl _ _ w.heap.size rfl _ _ _ _ (blk_setRow hB.blkR) Try.underlying24 rfl crtInfo) rfl ?_
    exact ⟨rfl, rdr_row hB.rdr hB.lt _, grown_row hB.grown (Nat.le_refl _) _⟩
  rw [if_neg hk]
  have hk1 := hk
  have hk1' : (V 0 == 1) = false := by simpa using hk1
  clear hk
  by_cases hk : V 0 = 2
  · rw [if_pos hk]
    go_enter Try.func25, Try.ntmps25
    go_upto_region 2 with (first
      | (go_at_call 37; refine (HN.out 0 _ hR.out).mono ?_; rintro e w1 ⟨rfl, hl1⟩)
      | (go_at_call 36; refine (HF.out 0 _).mono ?_; rintro e w1' ⟨rfl, rfl⟩)
      | (refine wpList_build rfl _ _ rfl #[(0, .int .i64 (2))] rfl (build_kd _ _) ?_)
      | (refine wpList_store_new rfl _ _ _ rfl _ (crtC ⟨2, 0, 0, 0, 0, 0, 0, 0⟩) rfl rfl _ _ crtInfo rfl (crtC_ones _) ?_))
    have hA := hM.out _ hl1 ⟨2, 0, 0, 0, 0, 0, 0, 0⟩
    obtain ⟨G, hG⟩ : ∃ G, G = w1.heap.size := ⟨_, rfl⟩
    rw [← hG] at hA
    rw [← hG]
    refine name_world (fun w2 hw2 => ?_)
    rw [← hw2] at hA
    clear hG hl1 hw2 hM hR
    have d0 : w2.cell? ⟨G, 0, none⟩ = some (.int .i64 2) := hA.blkG.cell 0
    have hA1 := hA
    clear hA hk hk1 hk1'
    go_upto_region 4 with (first
      | (go_at_call 37; (with_reducible refine (HN.out 1 _ hA1.rdr).mono ?_); rintro e x1 ⟨rfl, hl1⟩; have hA2 := hA1.next hl1)
      | (go_at_call 37; (with_reducible refine (HN.out 2 _ hA2.rdr).mono ?_); rintro e x2 ⟨rfl, hl2⟩; have hA3 := hA2.next hl2)
      | (go_at_call 37; (with_reducible refine (HN.out 3 _ hA3.rdr).mono ?_); rintro e x3 ⟨rfl, hl3⟩; have hA4 := hA3.next hl3)
      | (go_at_call 37; (with_reducible refine (HN.out 4 _ hA4.rdr).mono ?_); rintro e x4 ⟨rfl, hl4⟩; have hA5 := hA4.next hl4; have f1 := hA5.blkG.frozen 1; have f2 := hA5.blkG.frozen 2; have f3 := hA5.blkG.frozen 3; have f6 := hA5.blkG.frozen 6; have b1 : x4.cell? ⟨G, 1, none⟩ = some (.int .i64 0) := hA5.blkG.cell 1; have b2 : x4.cell? ⟨G, 2, none⟩ = some (.int .i64 0) := hA5.blkG.cell 2; have b3 : x4.cell? ⟨G, 3, none⟩ = some (.int .i64 0) := hA5.blkG.cell 3; have b6 : x4.cell? ⟨G, 6, none⟩ = some (.int .u32 0) := hA5.blkG.cell 6)
      | (go_at_call 36; first | ((with_reducible refine (HF.out 1 _).mono ?_); rintro e w1' ⟨rfl, rfl⟩) | ((with_reducible refine (HF.out 2 _).mono ?_); rintro e w1' ⟨rfl, rfl⟩) | ((with_reducible refine (HF.out 3 _).mono ?_); rintro e w1' ⟨rfl, rfl⟩) | ((with_reducible refine (HF.out 4 _).mono ?_); rintro e w1' ⟨rfl, rfl⟩)))
    have hB := (((hA5.set_ 1 (.int .i64 (V 1)) ⟨2, V 1, 0, 0, 0, 0, 0, 0⟩ rfl).set_ 2 (.int .i64 (V 2)) ⟨2, V 1, V 2, 0, 0, 0, 0, 0⟩ rfl).set_ 3 (.int .i64 (V 3)) ⟨2, V 1, V 2, V 3, 0, 0, 0, 0⟩ rfl).set_ 6 (.int .u32 (U 4)) ⟨2, V 1, V 2, V 3, 0, 0, U 4, 0⟩ rfl
    clear d0 hA1 hA2 hA3 hA4 hA5 hl1 hl2 hl3 hl4 f1 f2 f3 f6 b1 b2 b3 b6
    refine name_world (fun w4 hw4 => ?_)
    rw [← hw4] at hB
    clear hw4
    have d0 : w4.cell? ⟨G, 0, none⟩ = some (.int .i64 2) := hB.blkG.cell 0
    have hB5 := hB
    clear hB
    go_upto_region 6 with (first
      | (go_at_call 37; (with_reducible refine (HN.out 5 _ hB5.rdr).mono ?_); rintro e x5 ⟨rfl, hl5⟩; have hB6 := hB5.next hl5)
      | (go_at_call 37; (with_reducible refine (HN.out 6 _ hB6.rdr).mono ?_); rintro e x6 ⟨rfl, hl6⟩; have hB7 := hB6.next hl6)
      | (go_at_call 37; (with_reducible refine (HN.out 7 _ hB7.rdr).mono ?_); rintro e x7 ⟨rfl, hl7⟩; have hB8 := hB7.next hl7; have f4 := hB8.blkG.frozen 4; have f5 := hB8.blkG.frozen 5; have f7 := hB8.blkG.frozen 7; have b4 : x7.cell? ⟨G, 4, none⟩ = some (.int .i64 0) := hB8.blkG.cell 4; have b5 : x7.cell? ⟨G, 5, none⟩ = some (.int .i64 0) := hB8.blkG.cell 5; have b7 : x7.cell? ⟨G, 7, none⟩ = some (.int .u32 0) := hB8.blkG.cell 7)
      | (go_at_call 36; first | ((with_reducible refine (HF.out 5 _).mono ?_); rintro e w1' ⟨rfl, rfl⟩) | ((with_reducible refine (HF.out 6 _).mono ?_); rintro e w1' ⟨rfl, rfl⟩) | ((with_reducible refine (HF.out 7 _).mono ?_); rintro e w1' ⟨rfl, rfl⟩)))
    have hC := ((hB8.set_ 4 (.int .i64 (V 5)) ⟨2, V 1, V 2, V 3, V 5, 0, U 4, 0⟩ rfl).set_ 5 (.int .i64 (V 6)) ⟨2, V 1, V 2, V 3, V 5, V 6, U 4, 0⟩ rfl).set_ 7 (.int .u32 (U 7)) ⟨2, V 1, V 2, V 3, V 5, V 6, U 4, U 7⟩ rfl
    clear d0 hB5 hB6 hB7 hB8 hl5 hl6 hl7 f4 f5 f7 b4 b5 b7
    refine name_world (fun w6 hw6 => ?_)
    rw [← hw6] at hC
    clear hw6
    go_wp2_with (first
      | (refine wpList_row_at rfl _ _ rfl G rfl _ _ _ _ hC.blkG Try.underlying24 rfl crtInfo ?_)
      | (refine wpList_store_row rfl _ _ _ rfl w.heap.size (crtC ⟨2, V 1, V 2, V 3, V 5, V 6, U 4, U 7⟩) rfl rfl _ _ hC.blkR crtInfo rfl (crtC_ones _) ?_))
    (try simp only [Exit.inBlock, Exit.then])
    refine bodyPost_ret (v := .agg (crtC ⟨2, V 1, V 2, V 3, V 5, V 6, U 4, U 7⟩)) (results_row rfl _ _ w.heap.size rfl _ _ _ _ (blk_setRow hC.blkR) Try.underlying24 rfl crtInfo) rfl ?_
    exact ⟨rfl, rdr_row hC.rdr hC.lt _, grown_row hC.grown (Nat.le_refl _) _⟩
  rw [if_neg hk]
  have hk2' : (V 0 == 2) = false := by simpa using hk
  clear hk hk1
  go_enter Try.func25, Try.ntmps25
  go_upto_region 2 with (first
    | (go_at_call 37; refine (HN.out 0 _ hR.out).mono ?_; rintro e w1 ⟨rfl, hl1⟩)
    | (go_at_call 36; refine (HF.out 0 _).mono ?_; rintro e w1' ⟨rfl, rfl⟩)
    | (refine wpList_build rfl _ _ rfl #[(0, .int .i64 (V 0))] rfl (build_kd _ _) ?_)
    | (refine wpList_store_new rfl _ _ _ rfl _ (crtC ⟨V 0, 0, 0, 0, 0, 0, 0, 0⟩) rfl rfl _ _ crtInfo rfl (crtC_ones _) ?_))
  have hA := hM.out _ hl1 ⟨V 0, 0, 0, 0, 0, 0, 0, 0⟩
  obtain ⟨G, hG⟩ : ∃ G, G = w1.heap.size := ⟨_, rfl⟩
  rw [← hG] at hA
  rw [← hG]
  refine name_world (fun w2 hw2 => ?_)
  rw [← hw2] at hA
  clear hG hl1 hw2 hM hR
  have d0 : w2.cell? ⟨G, 0, none⟩ = some (.int .i64 (V 0)) := hA.blkG.cell 0
  go_wp2_with (first
    | (refine wpList_row_at rfl _ _ rfl G rfl _ _ _ _ hA.blkG Try.underlying24 rfl crtInfo ?_)
    | (refine wpList_store_row rfl _ _ _ rfl w.heap.size (crtC ⟨V 0, 0, 0, 0, 0, 0, 0, 0⟩) rfl rfl _ _ hA.blkR crtInfo rfl (crtC_ones _) ?_))
  (try simp only [Exit.inBlock, Exit.then])
  refine bodyPost_ret (v := .agg (crtC ⟨V 0, 0, 0, 0, 0, 0, 0, 0⟩)) (results_row rfl _ _ w.heap.size rfl _ _ _ _ (blk_setRow hA.blkR) Try.underlying24 rfl crtInfo) rfl ?_
  exact ⟨rfl, rdr_row hA.rdr hA.lt _, grown_row hA.grown (Nat.le_refl _) _⟩
end Go.Proofs.Ytkjkkbionlmohaa
