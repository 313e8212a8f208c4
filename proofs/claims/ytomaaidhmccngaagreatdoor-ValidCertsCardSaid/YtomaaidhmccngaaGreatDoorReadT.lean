import Derived.Test.YtomaaidhmccngaaGreatDoorCheckT
import Derived.Test.YtomaaidhmccngaaGreatDoorRd
import Derived.Deep.RegionHeld3
import Derived.Deep.DeepCutAuto
set_option linter.unusedSimpArgs false
set_option linter.unusedVariables false
set_option maxRecDepth 100000
set_option maxHeartbeats 16000000
namespace Go.Proofs.YtomaaidhmccngaaGreatDoor
open Go.RowKit Go.Lib
open L3 (Rdr leaves numS textS textV failS rdN)
theorem qiB {t : Txx} (h : t.kind = 0) : right t = false := by unfold right; rw [h]; simp
theorem qg9 {w : World} {g G i : Nat} {p : List UInt8 × Int} (h : Rdr w g p) (hG : g < G) (u : Value) : Rdr (w.setCell ⟨G, i, none⟩ u) g p := by
 obtain ⟨A, c, hb, hr, h3⟩ := h
 exact ⟨A, c, hb.far (by show g ≠ G; omega) u, hr.setCell (by show g <= G; omega) u, h3⟩
theorem qaT {w : World} {g : Nat} {p : List UInt8 × Int} (h : Rdr w g p) (o : Obj) : Rdr (w.alloc o) g p := by
 have hl := h.lt
 obtain ⟨A, c, hb, hr, h3⟩ := h
 exact ⟨A, c, hb.alloc o, hr.alloc (by omega) o, h3⟩
theorem qbS {w w' : World} {g B : Nat} {p : List UInt8 × Int} (h : Rdr w g p) (hb : Below B w w') (hg : g < B) : Rdr w' g p := by
 obtain ⟨A, c, h1, h2, h3⟩ := h
 exact ⟨A, c, h1.below hb hg, h2.below (hb.mono (by omega)), h3⟩
theorem qbn {w : World} {g G : Nat} {p : List UInt8 × Int} (h : Rdr w g p) (hG : g < G) (cs : Array Value) : Rdr (w.setRow G cs) g p := by
 refine qbS h (B := g + 1) ⟨rfl, rfl, rfl, by simp [World.setRow], fun i hi => ?_⟩ (Nat.lt_succ_self _)
 have : ¬ G = i := by omega
 simp [World.setRow, Array.getElem?_modify, this]
theorem qdP (p : List UInt8 × Int) : 0 <= numV p /\ numV p <= 4611686018427387904 := by
 unfold numV
 obtain ⟨k, s, e, hq⟩ : ∃ k s e, rdN 0 0 p.1 = (k, s, e) := ⟨_, _, _, rfl⟩
 rw [hq]
 by_cases he : e = 0
 ·subst he
  have := (L3.qeN hq).2.2.2
  constructor
  ·exact Int.natCast_nonneg _
  ·show (k : Int) <= _; omega
 ·have := ((L3.qjy _ _ _ _ _ _ hq).2 he).1
  subst this
  constructor
  ·exact Int.natCast_nonneg _
  ·show ((0 : Nat) : Int) <= _; omega
theorem qcy (p : List UInt8 × Int) : inI (numV p) := by
 have := qdP p
 unfold inI; omega
theorem qhZ (p : List UInt8 × Int) : (textV p).length <= 65536 := by
 unfold L3.textV
 split
 ·simp
 ·have h : L3.mostV 65536 p <= 65536 := by unfold L3.mostV; split <;> omega
  rw [List.length_take]; omega
def readT (p : List UInt8 × Int) : Txx × (List UInt8 × Int) :=
 if numV p = 1 then (⟨1, textV (numS (numS p)), textV (textS (numS (numS p))), [], [], numV (textS (textS (numS (numS p)))), numV (numS p)⟩, numS (textS (textS (numS (numS p)))))
 else if numV p = 2 then (⟨2, textV (numS (numS p)), [], textV (textS (numS (numS p))), textV (textS (textS (numS (numS p)))), 0, numV (numS p)⟩, textS (textS (textS (numS (numS p)))))
 else (zeroX, numS p)
theorem qj0 (p : List UInt8 × Int) : (readT p).1.wf 1000000 := by
 have i0 : inI 0 := by unfold inI; omega
 have i1 : inI 1 := by unfold inI; omega
 have i2 : inI 2 := by unfold inI; omega
 have t := fun q => Nat.le_trans (qhZ q) (show 65536 <= 1000000 by omega)
 unfold readT
 generalize hq1 : numS (numS p) = q1
 generalize hq2 : textS q1 = q2
 generalize hq3 : textS q2 = q3
 split
 ·dsimp only
  exact ⟨i1, t q1, t q2, Nat.zero_le _, Nat.zero_le _, qcy q3, qcy (numS p)⟩
 ·split
  ·dsimp only
   exact ⟨i2, t q1, Nat.zero_le _, t q2, t q3, i0, qcy (numS p)⟩
  ·exact qgW _
theorem qhY (p : List UInt8 × Int) : takeT p = endT (readT p).1 (readT p).2 := by
 unfold takeT readT
 generalize numS p = q
 generalize numV p = n
 by_cases h1 : n = 1
 ·rw [if_neg (fun h => h.1 h1), if_pos h1, if_pos h1]
 ·by_cases h2 : n = 2
  ·rw [if_neg (fun h => h.2 h2), if_neg h1, if_neg h1, if_pos h2]
  ·rw [if_pos ⟨h1, h2⟩, if_neg h1, if_neg h2]
   unfold endT
   rw [if_pos (.inr (qiB rfl))]
theorem qdC (g : Nat) (q : List UInt8 × Int) (W : World) (h : Rdr W g q) : Calls Tryz.prog 183 #[.pointer (some ⟨g, 0, none⟩)] W fun e w' => e = .returned (.int .i64 (numV q)) /\ leaves g (numS q) W w' := L3.qgG g q W h
theorem qeW (g : Nat) (q : List UInt8 × Int) (W : World) (h : Rdr W g q) : Calls Tryz.prog 214 #[.pointer (some ⟨g, 0, none⟩)] W fun e w' => e = .returned (.string (str (textV q))) /\ leaves g (textS q) W w' := L3.qmz g q W h
def qcq (w : World) (g : Nat) (t : Txx) (q : List UInt8 × Int) (W : World) : Prop :=
 Rdr W g q /\ L3.Blk W w.heap.size 133 (txC zeroX) /\ L3.Blk W (w.heap.size + 1) 133 (txC t) /\ w.grownBy W (some g) /\ g < w.heap.size
theorem qcq.rdr {w W : World} {g : Nat} {t : Txx} {q : List UInt8 × Int} (h : qcq w g t q W) : Rdr W g q := h.1
theorem qcq.next {w W W' : World} {g : Nat} {t : Txx} {q q' : List UInt8 × Int} (h : qcq w g t q W) (hl : leaves g q' W W') : qcq w g t q' W' :=
 ⟨hl.1, h.2.1.grown hl.2 (fun e => by injection e with e; have := h.2.2.2.2; omega), h.2.2.1.grown hl.2 (fun e => by injection e with e; have := h.2.2.2.2; omega), L3.qa3 h.2.2.2.1 hl.2, h.2.2.2.2⟩
theorem qdI {w W : World} {g : Nat} (h : w.grownBy W (some g)) {G i : Nat} (hG : w.heap.size <= G) (u : Value) : w.grownBy (W.setCell ⟨G, i, none⟩ u) (some g) :=
 ⟨h.os, h.tape, h.output, by simpa [World.setCell] using h.size, fun k hk hne => (Below.heap_setCell W ⟨G, i, none⟩ u k (by show k ≠ G; omega)).trans (h.block k hk hne)⟩
theorem qaJ {w W : World} {g : Nat} (h : w.grownBy W (some g)) {G : Nat} (hG : w.heap.size <= G) (cs : Array Value) : w.grownBy (W.setRow G cs) (some g) := by
 refine ⟨h.os, h.tape, h.output, by simpa [World.setRow] using h.size, fun k hk hne => ?_⟩
 have : ¬ G = k := by omega
 rw [<- h.block k hk hne]
 simp [World.setRow, Array.getElem?_modify, this]
theorem qcq.set_ {w W : World} {g : Nat} {t : Txx} {q : List UInt8 × Int} (h : qcq w g t q W) (i : Nat) (u : Value) (t' : Txx) (he : (txC t).setIfInBounds i u = txC t') : qcq w g t' q (W.setCell ⟨w.heap.size + 1, i, none⟩ u) := by
 have hg := h.2.2.2.2
 refine ⟨qg9 h.1 (by omega) u, h.2.1.far (by simp) u, ?_, qdI h.2.2.2.1 (Nat.le_succ _) u, hg⟩
 rw [<- he]
 exact h.2.2.1.set_ i u
theorem qcq.mk {w : World} {g : Nat} {q : List UInt8 × Int} (h : Rdr w g q) (t : Txx) : qcq w g t q ((w.alloc (.cells (txC zeroX) 133)).alloc (.cells (txC t) 133)) := by
 have e1 : (w.alloc (.cells (txC zeroX) 133)).heap.size = w.heap.size + 1 := by simp
 refine ⟨qaT (qaT h _) _, (qa6 w _ zeroX).alloc _, ?_, L3.qa3 (World.grownBy_alloc w _ _) (World.grownBy_alloc _ _ _), h.lt⟩
 have := qa6 (w.alloc (.cells (txC zeroX) 133)) 133 t
 rw [e1] at this
 exact this
theorem qgB (g : Nat) (p : List UInt8 × Int) (w : World) (h : Rdr w g p) :
 Calls Tryz.prog 205 #[.pointer (some ⟨g, 0, none⟩)] w fun e w' => e = .returned (.agg (txC (readT p).1)) /\ leaves g (readT p).2 w w' := by
 have HA := hid (qcq.mk h zeroX)
 have hn0 := fun W h => qdC g p W h
 obtain ⟨n0, e0⟩ : ∃ n, numV p = n := ⟨_, rfl⟩
 obtain ⟨q1, s1⟩ : ∃ q, numS p = q := ⟨_, rfl⟩
 obtain ⟨r, hX⟩ := nm (readT p)
 rw [<- hX]
 rw [e0, s1] at hn0
 unfold readT at hX
 rw [e0, s1] at hX
 by_cases k1 : n0 = 1
 ·have hn1 := fun W h => qdC g q1 W h
  have ht2 := fun W h => qeW g (numS q1) W h
  have ht3 := fun W h => qeW g (textS (numS q1)) W h
  have hn4 := fun W h => qdC g (textS (textS (numS q1))) W h
  rw [if_pos k1] at hX
  obtain ⟨n1, e1⟩ : ∃ n, numV q1 = n := ⟨_, rfl⟩
  obtain ⟨q2, s2⟩ : ∃ q, numS q1 = q := ⟨_, rfl⟩
  rw [e1, s2] at hX hn1
  rw [s2] at ht2 ht3 hn4
  obtain ⟨x2, e2⟩ : ∃ n, textV q2 = n := ⟨_, rfl⟩
  obtain ⟨q3, s3⟩ : ∃ q, textS q2 = q := ⟨_, rfl⟩
  rw [e2, s3] at hX ht2
  rw [s3] at ht3 hn4
  obtain ⟨x3, e3⟩ : ∃ n, textV q3 = n := ⟨_, rfl⟩
  obtain ⟨q4, s4⟩ : ∃ q, textS q3 = q := ⟨_, rfl⟩
  rw [e3, s4] at hX ht3
  rw [s4] at hn4
  obtain ⟨n4, e4⟩ : ∃ n, numV q4 = n := ⟨_, rfl⟩
  obtain ⟨q5, s5⟩ : ∃ q, numS q4 = q := ⟨_, rfl⟩
  rw [e4, s5] at hX hn4
  subst k1
  have HX := hid hX
  have HH := hid (And.intro hn0 (And.intro hn1 (And.intro ht2 (And.intro ht3 hn4))))
  clear hX hn0 hn1 ht2 ht3 hn4 e0 s1 e1 s2 e2 s3 e3 s4 e4 s5 h
  go_enter Tryz.func205, Tryz.ntmps205
  go_upto_region 2 with (first
   | (refine wpList_build rfl _ _ rfl #[] rfl (qax _) ?_)
   | (refine qaH rfl _ _ _ rfl (w.alloc _) (w.heap.size + 1) (by simp) (txC zeroX) rfl rfl _ _ (by kernel_rfl) rfl (qbF _) ?_))
  refine qab (fun w0 hw0 => ?_)
  have hA : qcq w g zeroX p w0 := by rw [hw0]; exact HA.out
  clear hw0 HA
  go_upto_region 5 with (first
   | (go_at_call 183; (with_reducible refine (HH.out.1 _ hA.rdr).mono ?_); rintro e w1 ⟨rfl, hl1⟩; have hA1 := hA.next hl1)
   | (go_at_call 183; (with_reducible refine (HH.out.2.1 _ hA1.rdr).mono ?_); rintro e w2 ⟨rfl, hl2⟩; have hA2 := hA1.next hl2)
   | (go_at_call 214; (with_reducible refine (HH.out.2.2.1 _ hA2.rdr).mono ?_); rintro e w3 ⟨rfl, hl3⟩; have hA3 := hA2.next hl3; have f0 := hA3.2.2.1.frozen 0; have f6 := hA3.2.2.1.frozen 6; have f1 := hA3.2.2.1.frozen 1; have b0 : w3.cell? ⟨w.heap.size + 1, 0, none⟩ = some (.int .i64 0) := hA3.2.2.1.cell 0; have b6 : w3.cell? ⟨w.heap.size + 1, 6, none⟩ = some (.int .i64 0) := hA3.2.2.1.cell 6; have b1 : w3.cell? ⟨w.heap.size + 1, 1, none⟩ = some (.string ⟨#[]⟩) := hA3.2.2.1.cell 1))
  have hB := ((hA3.set_ 0 (.int .i64 1) ⟨1, [], [], [], [], 0, 0⟩ rfl).set_ 6 (.int .i64 n1) ⟨1, [], [], [], [], 0, n1⟩ rfl).set_ 1 (.string (str x2)) ⟨1, x2, [], [], [], 0, n1⟩ rfl
  clear hA hA1 hA2 hA3 f0 f6 f1 b0 b6 b1 hl1 hl2 hl3
  refine qab (fun w4 hw4 => ?_)
  rw [<- hw4] at hB
  clear hw4
  go_upto_region 9 with (first
   | (go_at_call 214; (with_reducible refine (HH.out.2.2.2.1 _ hB.rdr).mono ?_); rintro e w5 ⟨rfl, hl5⟩; have hB5 := hB.next hl5)
   | (go_at_call 183; (with_reducible refine (HH.out.2.2.2.2 _ hB5.rdr).mono ?_); rintro e w6 ⟨rfl, hl6⟩; have hB6 := hB5.next hl6; have f2 := hB6.2.2.1.frozen 2; have f5 := hB6.2.2.1.frozen 5; have b2 : w6.cell? ⟨w.heap.size + 1, 2, none⟩ = some (.string ⟨#[]⟩) := hB6.2.2.1.cell 2; have b5 : w6.cell? ⟨w.heap.size + 1, 5, none⟩ = some (.int .i64 0) := hB6.2.2.1.cell 5))
  have hC := (hB6.set_ 2 (.string (str x3)) ⟨1, x2, x3, [], [], 0, n1⟩ rfl).set_ 5 (.int .i64 n4) ⟨1, x2, x3, [], [], n4, n1⟩ rfl
  clear hB hB5 hB6 f2 f5 b2 b5 hl5 hl6
  go_wp2_with (first
   | (refine qaa rfl _ _ rfl (w.heap.size + 1) rfl _ _ _ _ hC.2.2.1 Tryz.underlying133 rfl (by kernel_rfl) ?_)
   | (refine wpList_store_row rfl _ _ _ rfl w.heap.size (txC ⟨1, x2, x3, [], [], n4, n1⟩) rfl rfl _ _ hC.2.1 (by kernel_rfl) rfl (qbF _) ?_))
  (try simp only [Exit.inBlock, Exit.then])
  refine bodyPost_ret (v := .agg (txC ⟨1, x2, x3, [], [], n4, n1⟩)) (qan rfl _ _ w.heap.size rfl _ _ _ _ (qac hC.2.1) Tryz.underlying133 rfl (by kernel_rfl)) rfl ?_
  exact ⟨by rw [HX.out], by rw [HX.out]; exact ⟨qbn hC.1 hC.2.2.2.2 _, qaJ hC.2.2.2.1 (Nat.le_refl _) _⟩⟩
 have k1' : (n0 == 1) = false := by simpa using k1
 rw [if_neg k1] at hX
 by_cases k2 : n0 = 2
 ·have hn1 := fun W h => qdC g q1 W h
  have ht2 := fun W h => qeW g (numS q1) W h
  have ht3 := fun W h => qeW g (textS (numS q1)) W h
  have hn4 := fun W h => qeW g (textS (textS (numS q1))) W h
  rw [if_pos k2] at hX
  obtain ⟨n1, e1⟩ : ∃ n, numV q1 = n := ⟨_, rfl⟩
  obtain ⟨q2, s2⟩ : ∃ q, numS q1 = q := ⟨_, rfl⟩
  rw [e1, s2] at hX hn1
  rw [s2] at ht2 ht3 hn4
  obtain ⟨x2, e2⟩ : ∃ n, textV q2 = n := ⟨_, rfl⟩
  obtain ⟨q3, s3⟩ : ∃ q, textS q2 = q := ⟨_, rfl⟩
  rw [e2, s3] at hX ht2
  rw [s3] at ht3 hn4
  obtain ⟨x3, e3⟩ : ∃ n, textV q3 = n := ⟨_, rfl⟩
  obtain ⟨q4, s4⟩ : ∃ q, textS q3 = q := ⟨_, rfl⟩
  rw [e3, s4] at hX ht3
  rw [s4] at hn4
  obtain ⟨x4, e4⟩ : ∃ n, textV q4 = n := ⟨_, rfl⟩
  obtain ⟨q5, s5⟩ : ∃ q, textS q4 = q := ⟨_, rfl⟩
  rw [e4, s5] at hX hn4
  subst k2
  have HX := hid hX
  have HH := hid (And.intro hn0 (And.intro hn1 (And.intro ht2 (And.intro ht3 hn4))))
  clear hX hn0 hn1 ht2 ht3 hn4 e0 s1 e1 s2 e2 s3 e3 s4 e4 s5 h k1 k1'
  go_enter Tryz.func205, Tryz.ntmps205
  go_upto_region 2 with (first
   | (refine wpList_build rfl _ _ rfl #[] rfl (qax _) ?_)
   | (refine qaH rfl _ _ _ rfl (w.alloc _) (w.heap.size + 1) (by simp) (txC zeroX) rfl rfl _ _ (by kernel_rfl) rfl (qbF _) ?_))
  refine qab (fun w0 hw0 => ?_)
  have hA : qcq w g zeroX p w0 := by rw [hw0]; exact HA.out
  clear hw0 HA
  go_upto_region 8 with (first
   | (go_at_call 183; (with_reducible refine (HH.out.1 _ hA.rdr).mono ?_); rintro e w1 ⟨rfl, hl1⟩; have hA1 := hA.next hl1)
   | (go_at_call 183; (with_reducible refine (HH.out.2.1 _ hA1.rdr).mono ?_); rintro e w2 ⟨rfl, hl2⟩; have hA2 := hA1.next hl2)
   | (go_at_call 214; (with_reducible refine (HH.out.2.2.1 _ hA2.rdr).mono ?_); rintro e w3 ⟨rfl, hl3⟩; have hA3 := hA2.next hl3; have f0 := hA3.2.2.1.frozen 0; have f6 := hA3.2.2.1.frozen 6; have f1 := hA3.2.2.1.frozen 1; have b0 : w3.cell? ⟨w.heap.size + 1, 0, none⟩ = some (.int .i64 0) := hA3.2.2.1.cell 0; have b6 : w3.cell? ⟨w.heap.size + 1, 6, none⟩ = some (.int .i64 0) := hA3.2.2.1.cell 6; have b1 : w3.cell? ⟨w.heap.size + 1, 1, none⟩ = some (.string ⟨#[]⟩) := hA3.2.2.1.cell 1))
  have hB := ((hA3.set_ 0 (.int .i64 2) ⟨2, [], [], [], [], 0, 0⟩ rfl).set_ 6 (.int .i64 n1) ⟨2, [], [], [], [], 0, n1⟩ rfl).set_ 1 (.string (str x2)) ⟨2, x2, [], [], [], 0, n1⟩ rfl
  clear hA hA1 hA2 hA3 f0 f6 f1 b0 b6 b1 hl1 hl2 hl3
  refine qab (fun w4 hw4 => ?_)
  rw [<- hw4] at hB
  clear hw4
  go_upto_region 9 with (first
   | (go_at_call 214; (with_reducible refine (HH.out.2.2.2.1 _ hB.rdr).mono ?_); rintro e w5 ⟨rfl, hl5⟩; have hB5 := hB.next hl5)
   | (go_at_call 214; (with_reducible refine (HH.out.2.2.2.2 _ hB5.rdr).mono ?_); rintro e w6 ⟨rfl, hl6⟩; have hB6 := hB5.next hl6; have f3 := hB6.2.2.1.frozen 3; have f4 := hB6.2.2.1.frozen 4; have b3 : w6.cell? ⟨w.heap.size + 1, 3, none⟩ = some (.string ⟨#[]⟩) := hB6.2.2.1.cell 3; have b4 : w6.cell? ⟨w.heap.size + 1, 4, none⟩ = some (.string ⟨#[]⟩) := hB6.2.2.1.cell 4))
  have hC := (hB6.set_ 3 (.string (str x3)) ⟨2, x2, [], x3, [], 0, n1⟩ rfl).set_ 4 (.string (str x4)) ⟨2, x2, [], x3, x4, 0, n1⟩ rfl
  clear hB hB5 hB6 f3 f4 b3 b4 hl5 hl6
  go_wp2_with (first
   | (refine qaa rfl _ _ rfl (w.heap.size + 1) rfl _ _ _ _ hC.2.2.1 Tryz.underlying133 rfl (by kernel_rfl) ?_)
   | (refine wpList_store_row rfl _ _ _ rfl w.heap.size (txC ⟨2, x2, [], x3, x4, 0, n1⟩) rfl rfl _ _ hC.2.1 (by kernel_rfl) rfl (qbF _) ?_))
  (try simp only [Exit.inBlock, Exit.then])
  refine bodyPost_ret (v := .agg (txC ⟨2, x2, [], x3, x4, 0, n1⟩)) (qan rfl _ _ w.heap.size rfl _ _ _ _ (qac hC.2.1) Tryz.underlying133 rfl (by kernel_rfl)) rfl ?_
  exact ⟨by rw [HX.out], by rw [HX.out]; exact ⟨qbn hC.1 hC.2.2.2.2 _, qaJ hC.2.2.2.1 (Nat.le_refl _) _⟩⟩
 ·have k2' : (n0 == 2) = false := by simpa using k2
  rw [if_neg k2] at hX
  have HX := hid hX
  have HH := hid hn0
  clear hX hn0 e0 s1 h k1 k2
  go_enter Tryz.func205, Tryz.ntmps205
  go_upto_region 2 with (first
   | (refine wpList_build rfl _ _ rfl #[] rfl (qax _) ?_)
   | (refine qaH rfl _ _ _ rfl (w.alloc _) (w.heap.size + 1) (by simp) (txC zeroX) rfl rfl _ _ (by kernel_rfl) rfl (qbF _) ?_))
  refine qab (fun w0 hw0 => ?_)
  have hA : qcq w g zeroX p w0 := by rw [hw0]; exact HA.out
  clear hw0 HA
  go_upto_region 9 with (first
   | (go_at_call 183; (with_reducible refine (HH.out _ hA.rdr).mono ?_); rintro e w1 ⟨rfl, hl1⟩; have hC := hA.next hl1))
  clear hA
  go_wp2_with (first
   | (refine qaa rfl _ _ rfl (w.heap.size + 1) rfl _ _ _ _ hC.2.2.1 Tryz.underlying133 rfl (by kernel_rfl) ?_)
   | (refine wpList_store_row rfl _ _ _ rfl w.heap.size (txC zeroX) rfl rfl _ _ hC.2.1 (by kernel_rfl) rfl (qbF _) ?_))
  (try simp only [Exit.inBlock, Exit.then])
  refine bodyPost_ret (v := .agg (txC zeroX)) (qan rfl _ _ w.heap.size rfl _ _ _ _ (qac hC.2.1) Tryz.underlying133 rfl (by kernel_rfl)) rfl ?_
  exact ⟨by rw [HX.out], by rw [HX.out]; exact ⟨qbn hC.1 hC.2.2.2.2 _, qaJ hC.2.2.2.1 (Nat.le_refl _) _⟩⟩
