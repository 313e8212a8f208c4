import Derived.Test.YtomaaidhmccngaaGreatDoorTk11
import Derived.Test.YtomaaidhmccngaaGreatDoorRefCheckT
import Derived.Test.YtomaaidhmccngaaGreatDoorReadT
set_option linter.unusedSimpArgs false
set_option linter.unusedVariables false
set_option maxRecDepth 100000
set_option maxHeartbeats 16000000
namespace Go.Proofs.YtomaaidhmccngaaGreatDoor
open Go.RowKit Go.Maps Go.Lib
open L3 (Blk Reads numS failS rdN mostS mostV textS textV doneV)
open L11 (wpList_store_row qac below_setRow qah)
theorem txInfo8 : (Tryz.prog.info? 133).map (·.size) = some 7 := by kernel_rfl
theorem qbo (t : Txx) : (txC t).all (·.oneCell') = true := by kernel_rfl
theorem qiW (k : Int) (w : World) : (Instr.build 133 #[(0, .int .i64 k)]).run Tryz.prog w = .ok (.agg (txC ⟨k, [], [], [], [], 0, 0⟩)) w := run_build w _ _ _ (by kernel_rfl)
structure DxAt (w : World) (G : Nat) (x : Txx) (l : List UInt8) (E : Int) (W : World) : Prop where
 k1 : Blk W w.heap.size 172 (rC l E)
 k2 : Blk W (w.heap.size + 1) 133 (txC zeroX)
 k3 : Blk W (w.heap.size + 2) 172 zC
 k4 : Blk W G 133 (txC x)
 bw : Below w.heap.size w W
 hG : w.heap.size + 2 < G
section
variable {w W W' : World} {G : Nat} {x : Txx} {l : List UInt8} {E : Int}
theorem DxAt.below (h : DxAt w G x l E W) (hb : Below W.heap.size W W') : DxAt w G x l E W' := ⟨h.k1.below hb h.k1.lt, h.k2.below hb h.k2.lt, h.k3.below hb h.k3.lt, h.k4.below hb h.k4.lt, nxt h.bw hb, h.hG⟩
theorem DxAt.drew (h : DxAt w G x l E W) : DxAt w G x l E W.drew := h.below (Below.refl _ W).drew
theorem DxAt.row (h : DxAt w G x l E W) (l' : List UInt8) (E' : Int) : DxAt w G x l' E' (W.setRow w.heap.size (rC l' E')) := by
 have hG := h.hG
 exact ⟨qac h.k1, qah h.k2 (by omega), qah h.k3 (by omega), qah h.k4 (by omega), below_setRow h.bw (Nat.le_refl _), h.hG⟩
theorem DxAt.set_ (h : DxAt w G x l E W) (i : Nat) (u : Value) (x' : Txx) (he : (txC x).setIfInBounds i u = txC x') : DxAt w G x' l E (W.setCell ⟨G, i, none⟩ u) := by
 have hG := h.hG
 refine ⟨h.k1.far (by show w.heap.size ≠ G; omega) u, h.k2.far (by show w.heap.size + 1 ≠ G; omega) u, h.k3.far (by show w.heap.size + 2 ≠ G; omega) u, ?_, ?_, h.hG⟩
 ·rw [<- he]; exact h.k4.set_ i u
 ·exact h.bw.trans (((Below.refl _ W)).setCell (by show w.heap.size <= G; omega) u)
end
def tookX (z : Txx × (List UInt8 × Int)) (w : World) (e : Ending) (w' : World) : Prop := leads (fun E => .tuple #[.agg (txC z.1), .agg (rC z.2.1 E)]) z.2 w e w'
theorem qgv {x : Txx} {q : List UInt8 × Int} (h : q.2 ≠ 0 ∨ right x = false) : endT x q = (zeroX, failS 80 q) := by unfold endT; rw [if_pos h]
theorem qlz {x : Txx} {q : List UInt8 × Int} (h : q.2 = 0) (hm : right x = true) : endT x q = (x, q) := by unfold endT; rw [if_neg (by rintro (h1 | h1); exact h1 h; rw [hm] at h1; cases h1)]
theorem qtx_any (p : List UInt8 × Int) (E : Int) (w : World) (h : okE E p) : Calls Tryz.prog 168 #[.agg (rC p.1 E)] w (tookX (takeT p) w) := by
 have Z := hid (qee w 172 133 172 (rC p.1 E) (txC zeroX) zC)
 have hd : takeT p = if numV p ≠ 1 /\ numV p ≠ 2 then (zeroX, failS 80 (numS p)) else if numV p = 1 then endT ⟨1, textV (numS (numS p)), textV (textS (numS (numS p))), [], [], numV (textS (textS (numS (numS p)))), numV (numS p)⟩ (numS (textS (textS (numS (numS p))))) else endT ⟨2, textV (numS (numS p)), [], textV (textS (numS (numS p))), textV (textS (textS (numS (numS p)))), 0, numV (numS p)⟩ (textS (textS (textS (numS (numS p))))) := rfl
 have hvl := fun q => qcy q
 have htl := fun q => Nat.le_trans (qhZ q) (show 65536 <= 1000000 by omega)
 obtain ⟨v0, hv0⟩ := nm (numV p)
 obtain ⟨q0, hq0⟩ := nm (numS p)
 obtain ⟨v1, hv1⟩ := nm (numV q0)
 obtain ⟨q1, hq1⟩ := nm (numS q0)
 obtain ⟨t2, ht2⟩ := nm (textV q1)
 obtain ⟨q2, hq2⟩ := nm (textS q1)
 obtain ⟨t3, ht3⟩ := nm (textV q2)
 obtain ⟨q3, hq3⟩ := nm (textS q2)
 obtain ⟨v4, hv4⟩ := nm (numV q3)
 obtain ⟨q4, hq4⟩ := nm (numS q3)
 obtain ⟨t5, ht5⟩ := nm (textV q3)
 obtain ⟨q5, hq5⟩ := nm (textS q3)
 rw [<- hv0, <- hq0, <- hq1, <- hv1, <- hq2, <- ht2, <- ht3, <- hq3, <- hv4, <- hq4, <- ht5, <- hq5] at hd
 have C0 := hid (show ∀ W E, okE E p -> Calls Tryz.prog 165 #[.agg (rC p.1 E)] W (leads (fun E' => .tuple #[.int .i64 v0, .agg (rC q0.1 E')]) q0 W) from fun W E h => by rw [hv0, hq0]; exact qcI p E W h)
 have C1 := hid (show ∀ W E, okE E q0 -> Calls Tryz.prog 165 #[.agg (rC q0.1 E)] W (leads (fun E' => .tuple #[.int .i64 v1, .agg (rC q1.1 E')]) q1 W) from fun W E h => by rw [hv1, hq1]; exact qcI q0 E W h)
 have C2 := hid (show ∀ W E, okE E q1 -> Calls Tryz.prog 192 #[.agg (rC q1.1 E)] W (leads (fun E' => .tuple #[.string (str t2), .agg (rC q2.1 E')]) q2 W) from fun W E h => by rw [ht2, hq2]; exact qfm q1 E W h)
 have C3 := hid (show ∀ W E, okE E q2 -> Calls Tryz.prog 192 #[.agg (rC q2.1 E)] W (leads (fun E' => .tuple #[.string (str t3), .agg (rC q3.1 E')]) q3 W) from fun W E h => by rw [ht3, hq3]; exact qfm q2 E W h)
 have C4 := hid (show ∀ W E, okE E q3 -> Calls Tryz.prog 165 #[.agg (rC q3.1 E)] W (leads (fun E' => .tuple #[.int .i64 v4, .agg (rC q4.1 E')]) q4 W) from fun W E h => by rw [hv4, hq4]; exact qcI q3 E W h)
 have C5 := hid (show ∀ W E, okE E q3 -> Calls Tryz.prog 192 #[.agg (rC q3.1 E)] W (leads (fun E' => .tuple #[.string (str t5), .agg (rC q5.1 E')]) q5 W) from fun W E h => by rw [ht5, hq5]; exact qfm q3 E W h)
 have hi0 : inI v0 := by rw [hv0]; exact hvl _
 have hi1 : inI v1 := by rw [hv1]; exact hvl _
 have hi4 : inI v4 := by rw [hv4]; exact hvl _
 have hl2 : t2.length <= 1000000 := by rw [ht2]; exact htl _
 have hl3 : t3.length <= 1000000 := by rw [ht3]; exact htl _
 have hl5 : t5.length <= 1000000 := by rw [ht5]; exact htl _
 have i0 : inI 0 := by unfold inI; omega
 have i1 : inI 1 := by unfold inI; omega
 have i2 : inI 2 := by unfold inI; omega
 have HD := hid hd
 have HW := hid (And.intro (show Txx.wf 1000000 ⟨1, t2, t3, [], [], v4, v1⟩ from ⟨i1, hl2, hl3, Nat.zero_le _, Nat.zero_le _, hi4, hi1⟩) (show Txx.wf 1000000 ⟨2, t2, [], t3, t5, 0, v1⟩ from ⟨i2, hl2, Nat.zero_le _, hl3, hl5, i0, hi1⟩))
 clear hd hvl htl hv0 hq0 hv1 hq1 ht2 hq2 ht3 hq3 hv4 hq4 ht5 hq5 hi0 hi1 hi4 hl2 hl3 hl5 i0 i1 i2
 obtain ⟨l, hl⟩ := nm (p.1)
 rw [<- hl] at Z C0 ⊢
 clear hl
 go_enter Tryz.func168, Tryz.ntmps168
 go_upto_region 1 with fail
 refine qab (fun w0 hw0 => ?_)
 have hA : Blk w0 w.heap.size 172 (rC l E) /\ Blk w0 (w.heap.size + 1) 133 (txC zeroX) /\ Blk w0 (w.heap.size + 2) 172 zC /\ Below w.heap.size w w0 := by rw [hw0]; exact Z.out
 clear hw0 Z
 go_upto_region 2 with (first
  | (refine qaa rfl _ _ rfl w.heap.size rfl _ _ _ _ hA.1 Tryz.underlying172 rfl (rInfo _ _) ?_)
  | (go_at_call 165; refine (C0.out _ _ h).mono ?_; rintro e z0 ⟨E0, rfl, hE0, hb0⟩
     have k1 := hA.1.below hb0 hA.1.lt)
  | (refine wpList_store_row rfl _ _ _ rfl w.heap.size (rC q0.1 E0) rfl rfl _ _ k1 (rInfo _ _) rfl (qap _ _) ?_))
 have k2 := qah (ds := rC q0.1 E0) (hA.2.1.below hb0 hA.2.1.lt) (show w.heap.size ≠ w.heap.size + 1 by omega)
 have k3 := qah (ds := rC q0.1 E0) (hA.2.2.1.below hb0 hA.2.2.1.lt) (show w.heap.size ≠ w.heap.size + 2 by omega)
 have k1' := qac (cs := rC q0.1 E0) k1
 have hbw := below_setRow (cs := rC q0.1 E0) (nxt hA.2.2.2 hb0) (Nat.le_refl w.heap.size)
 refine qab (fun w1 hw1 => ?_)
 rw [<- hw1] at k1' k2 k3 hbw
 clear hw1 hb0 hA k1
 by_cases h1 : v0 = 1 ∨ v0 = 2
 case neg =>
  have e1 : (v0 != 1) = true := by simp; omega
  have e2 : (v0 != 2) = true := by simp; omega
  have hf := fun W => qbi q0 E0 80 W hE0
  obtain ⟨QF, hQF⟩ := nm (failS 80 q0)
  rw [<- hQF] at hf
  have HFF := hid hf
  have HP := hid (show takeT p = (zeroX, QF) by rw [HD.out, if_pos ⟨by omega, by omega⟩, hQF])
  have hAA : DxAt w (w.heap.size + 3) zeroX q0.1 E0 (w1.alloc (.cells (txC zeroX) 133)) ∨ True := .inr trivial
  clear h1 hf hQF hAA
  go_wp2_with (first
   | (refine wpList_build rfl _ _ rfl #[] rfl (qax _) ?_)
   | (refine qaa rfl _ _ rfl w.heap.size rfl _ _ _ _ k1' Tryz.underlying172 rfl (rInfo _ _) ?_)
   | (go_at_call 169; refine (HFF.out _).mono ?_; rintro e wf ⟨Ef, rfl, hEf, hbf⟩
      have m2 := k2.below hbf k2.lt
      have kb := qah (ds := txC zeroX) (k3.below hbf k3.lt) (show w.heap.size + 1 ≠ w.heap.size + 2 by omega))
   | (refine wpList_store_row rfl _ _ _ rfl (w.heap.size + 1) (txC zeroX) rfl rfl _ _ m2 txInfo8 rfl (qbo _) ?_)
   | (refine wpList_store_row rfl _ _ _ rfl (w.heap.size + 2) (rC QF.1 Ef) rfl rfl _ _ kb (rInfo _ _) rfl (qap _ _) ?_))
  (try simp only [Exit.inBlock, Exit.then, Act.put])
  refine bodyPost_ret (v := .tuple #[.agg (txC zeroX), .agg (rC QF.1 Ef)]) (qas rfl _ _ (w.heap.size + 1) (w.heap.size + 2) rfl rfl _ _ (txC zeroX) (rC QF.1 Ef) _ _ _ _ (qah (qac m2) (by omega)) (qac kb) Tryz.underlying133 rfl txInfo8 Tryz.underlying172 rfl (rInfo _ _)) rfl ?_
  rw [HP.out]
  exact ⟨Ef, rfl, hEf, below_setRow (below_setRow (nxt hbw hbf) (Nat.le_succ _)) (by omega)⟩
 have H1 := hid h1
 have e12 : ((v0 != 1) = true /\ (v0 != 2) = false) ∨ (v0 != 1) = false := by rcases h1 with rfl | rfl <;> simp
 have HK := hid (And.intro k1' (And.intro k2 (And.intro k3 hbw)))
 clear h1 k1' k2 k3 hbw
 by_cases hk : v0 = 1
 ·subst hk
  have HT := hid (show takeT p = endT ⟨1, t2, t3, [], [], v4, v1⟩ q4 by rw [HD.out, if_neg (fun h => h.1 rfl), if_pos rfl])
  have hwf := HW.out.1
  clear e12 H1 HD HW C0
  have hA0 : DxAt w w1.heap.size ⟨1, [], [], [], [], 0, 0⟩ q0.1 E0 (w1.alloc (.cells (txC ⟨1, [], [], [], [], 0, 0⟩) 133)) := by
   obtain ⟨k1', k2, k3, hbw⟩ := HK.out
   have hb2 := (Below.refl _ w1).alloc (Nat.le_refl _) (.cells (txC ⟨1, [], [], [], [], 0, 0⟩) 133)
   exact ⟨k1'.below hb2 k1'.lt, k2.below hb2 k2.lt, k3.below hb2 k3.lt, Blk.new _ _ _, nxt hbw hb2, k3.lt⟩
  go_upto_region 5 with (first
   | (refine wpList_build rfl _ _ rfl #[(0, .int .i64 1)] rfl (qiW _ _) ?_)
   | (refine qaf rfl _ _ _ rfl w1 (txC ⟨1, [], [], [], [], 0, 0⟩) rfl rfl _ _ txInfo8 rfl (qbo _) ?_))
  obtain ⟨G, hG⟩ := nm (w1.heap.size)
  rw [<- hG] at hA0 ⊢
  refine qab (fun y0 hy0 => ?_)
  rw [<- hy0] at hA0
  clear hy0 hG HK
  go_upto_region 6 with (first
   | (refine qaa rfl _ _ rfl w.heap.size rfl _ _ _ _ hA0.k1 Tryz.underlying172 rfl (rInfo _ _) ?_)
   | (go_at_call 165; refine (C1.out _ _ hE0).mono ?_; rintro e z1 ⟨E1, rfl, hE1, hb1⟩
      have hB1 := hA0.below hb1
      have o1 : z1.cell? ⟨G, 6, none⟩ = some (.int .i64 0) := hB1.k4.cell 6
      have f1 := hB1.k4.frozen 6
      have hS1 := hB1.set_ 6 (.int .i64 v1) (⟨1, [], [], [], [], 0, v1⟩) rfl)
   | (refine wpList_store_row rfl _ _ _ rfl w.heap.size (rC q1.1 E1) rfl rfl _ _ hS1.k1 (rInfo _ _) rfl (qap _ _) ?_))
  have hA1 := hS1.row q1.1 E1
  clear o1 f1 hS1 hB1 hb1 hA0
  refine qab (fun y1 hy1 => ?_)
  rw [<- hy1] at hA1
  clear hy1
  go_upto_region 7 with (first
   | (refine qaa rfl _ _ rfl w.heap.size rfl _ _ _ _ hA1.k1 Tryz.underlying172 rfl (rInfo _ _) ?_)
   | (go_at_call 192; refine (C2.out _ _ hE1).mono ?_; rintro e z2 ⟨E2, rfl, hE2, hb2⟩
      have hB2 := hA1.below hb2
      have o2 : z2.cell? ⟨G, 1, none⟩ = some (.string ⟨#[]⟩) := hB2.k4.cell 1
      have f2 := hB2.k4.frozen 1
      have hS2 := hB2.set_ 1 (.string (str t2)) (⟨1, t2, [], [], [], 0, v1⟩) rfl)
   | (refine wpList_store_row rfl _ _ _ rfl w.heap.size (rC q2.1 E2) rfl rfl _ _ hS2.k1 (rInfo _ _) rfl (qap _ _) ?_))
  have hA2 := hS2.row q2.1 E2
  clear o2 f2 hS2 hB2 hb2 hA1
  refine qab (fun y2 hy2 => ?_)
  rw [<- hy2] at hA2
  clear hy2
  go_upto_region 9 with (first
   | (refine qaa rfl _ _ rfl w.heap.size rfl _ _ _ _ hA2.k1 Tryz.underlying172 rfl (rInfo _ _) ?_)
   | (go_at_call 192; refine (C3.out _ _ hE2).mono ?_; rintro e z3 ⟨E3, rfl, hE3, hb3⟩
      have hB3 := hA2.below hb3
      have o3 : z3.cell? ⟨G, 2, none⟩ = some (.string ⟨#[]⟩) := hB3.k4.cell 2
      have f3 := hB3.k4.frozen 2
      have hS3 := hB3.set_ 2 (.string (str t3)) (⟨1, t2, t3, [], [], 0, v1⟩) rfl)
   | (refine wpList_store_row rfl _ _ _ rfl w.heap.size (rC q3.1 E3) rfl rfl _ _ hS3.k1 (rInfo _ _) rfl (qap _ _) ?_))
  have hA3 := hS3.row q3.1 E3
  clear o3 f3 hS3 hB3 hb3 hA2
  refine qab (fun y3 hy3 => ?_)
  rw [<- hy3] at hA3
  clear hy3
  go_upto_region 12 with (first
   | (refine qaa rfl _ _ rfl w.heap.size rfl _ _ _ _ hA3.k1 Tryz.underlying172 rfl (rInfo _ _) ?_)
   | (go_at_call 165; refine (C4.out _ _ hE3).mono ?_; rintro e z4 ⟨E4, rfl, hE4, hb4⟩
      have hB4 := hA3.below hb4
      have o4 : z4.cell? ⟨G, 5, none⟩ = some (.int .i64 0) := hB4.k4.cell 5
      have f4 := hB4.k4.frozen 5
      have hS4 := hB4.set_ 5 (.int .i64 v4) (⟨1, t2, t3, [], [], v4, v1⟩) rfl)
   | (refine wpList_store_row rfl _ _ _ rfl w.heap.size (rC q4.1 E4) rfl rfl _ _ hS4.k1 (rInfo _ _) rfl (qap _ _) ?_))
  have hA4 := hS4.row q4.1 E4
  clear o4 f4 hS4 hB4 hb4 hA3
  refine qab (fun y4 hy4 => ?_)
  rw [<- hy4] at hA4
  clear hy4
  clear C1 C2 C3 C4 C5
  have b1 : y4.cell? ⟨w.heap.size, 1, none⟩ = some (.int .i64 E4) := hA4.k1.cell 1
  by_cases he : E4 = 0
  case neg =>
   have q1 : (E4 != 0) = true := by simpa using he
   have hf := fun W => qbi q4 E4 80 W hE4
   obtain ⟨QF, hQF⟩ := nm (failS 80 q4)
   rw [<- hQF] at hf
   have HFF := hid hf
   have HP := hid (show takeT p = (zeroX, QF) by rw [HT.out, qgv (.inl (hE4.dead he).1), hQF])
   clear he hf hQF
   go_wp2_with (first
    | (refine wpList_build rfl _ _ rfl #[] rfl (qax _) ?_)
    | (refine qaa rfl _ _ rfl w.heap.size rfl _ _ _ _ hA4.k1 Tryz.underlying172 rfl (rInfo _ _) ?_)
    | (go_at_call 169; refine (HFF.out _).mono ?_; rintro e wf ⟨Ef, rfl, hEf, hbf⟩
       have hAf := hA4.below hbf
       have kb := qah (ds := txC zeroX) hAf.k3 (show w.heap.size + 1 ≠ w.heap.size + 2 by omega))
    | (refine wpList_store_row rfl _ _ _ rfl (w.heap.size + 1) (txC zeroX) rfl rfl _ _ hAf.k2 txInfo8 rfl (qbo _) ?_)
    | (refine wpList_store_row rfl _ _ _ rfl (w.heap.size + 2) (rC QF.1 Ef) rfl rfl _ _ kb (rInfo _ _) rfl (qap _ _) ?_))
   (try simp only [Exit.inBlock, Exit.then, Act.put])
   refine bodyPost_ret (v := .tuple #[.agg (txC zeroX), .agg (rC QF.1 Ef)]) (qas rfl _ _ (w.heap.size + 1) (w.heap.size + 2) rfl rfl _ _ (txC zeroX) (rC QF.1 Ef) _ _ _ _ (qah (qac hAf.k2) (by omega)) (qac kb) Tryz.underlying133 rfl txInfo8 Tryz.underlying172 rfl (rInfo _ _)) rfl ?_
   rw [HP.out]
   exact ⟨Ef, rfl, hEf, below_setRow (below_setRow hAf.bw (Nat.le_succ _)) (by omega)⟩
  have q1 : (E4 != 0) = false := by simpa using he
  have hq0 : q4.2 = 0 := hE4.alive he
  have hck := qa2 (⟨1, t2, t3, [], [], v4, v1⟩) y4 hwf
  rcases Bool.eq_false_or_eq_true (right (⟨1, t2, t3, [], [], v4, v1⟩)) with hm | hm
  case inr =>
   rw [hm] at hck
   have hf := fun W => qbi q4 E4 80 W hE4
   obtain ⟨QF, hQF⟩ := nm (failS 80 q4)
   rw [<- hQF] at hf
   have HFF := hid hf
   have HP := hid (show takeT p = (zeroX, QF) by rw [HT.out, qgv (.inr hm), hQF])
   clear he hf hQF hm hq0 hwf
   go_wp2_with (first
    | (refine qaa rfl _ _ rfl G rfl _ _ _ _ hA4.k4 Tryz.underlying133 rfl txInfo8 ?_)
    | (go_at_call 105; refine hck.mono ?_; unfold gives; rintro e wc ⟨rfl, hbc⟩
       have hAc := hA4.below hbc)
    | (refine wpList_build rfl _ _ rfl #[] rfl (qax _) ?_)
    | (refine qaa rfl _ _ rfl w.heap.size rfl _ _ _ _ hAc.k1 Tryz.underlying172 rfl (rInfo _ _) ?_)
    | (go_at_call 169; refine (HFF.out _).mono ?_; rintro e wf ⟨Ef, rfl, hEf, hbf⟩
       have hAf := hAc.below hbf
       have kb := qah (ds := txC zeroX) hAf.k3 (show w.heap.size + 1 ≠ w.heap.size + 2 by omega))
    | (refine wpList_store_row rfl _ _ _ rfl (w.heap.size + 1) (txC zeroX) rfl rfl _ _ hAf.k2 txInfo8 rfl (qbo _) ?_)
    | (refine wpList_store_row rfl _ _ _ rfl (w.heap.size + 2) (rC QF.1 Ef) rfl rfl _ _ kb (rInfo _ _) rfl (qap _ _) ?_))
   (try simp only [Exit.inBlock, Exit.then, Act.put])
   refine bodyPost_ret (v := .tuple #[.agg (txC zeroX), .agg (rC QF.1 Ef)]) (qas rfl _ _ (w.heap.size + 1) (w.heap.size + 2) rfl rfl _ _ (txC zeroX) (rC QF.1 Ef) _ _ _ _ (qah (qac hAf.k2) (by omega)) (qac kb) Tryz.underlying133 rfl txInfo8 Tryz.underlying172 rfl (rInfo _ _)) rfl ?_
   rw [HP.out]
   exact ⟨Ef, rfl, hEf, below_setRow (below_setRow hAf.bw (Nat.le_succ _)) (by omega)⟩
  rw [hm] at hck
  have HP := hid (show takeT p = ((⟨1, t2, t3, [], [], v4, v1⟩), q4) by rw [HT.out, qlz hq0 hm])
  clear hm hq0 he hwf
  go_upto_region 14 with (first
   | (refine qaa rfl _ _ rfl G rfl _ _ _ _ hA4.k4 Tryz.underlying133 rfl txInfo8 ?_)
   | (go_at_call 105; refine hck.mono ?_; unfold gives; rintro e wc ⟨rfl, hbc⟩))
  clear b1 hck
  have hAd := (hA4.below hbc).drew
  obtain ⟨wd, hwd⟩ := nm (wc.drew)
  rw [<- hwd] at hAd
  refine qak (fun W => Blk W w.heap.size 172 (rC q4.1 E4) /\ Blk W G 133 (txC (⟨1, t2, t3, [], [], v4, v1⟩))) [0, 1] (by kernel_rfl) ?_
  rw [<- hwd]
  clear hwd hbc
  refine qar (f := 2) (by kernel_rfl) (fun _ x _ _ _ h => by cases x <;> exact h) ⟨hAd.k1, hAd.k4⟩ [0, 1] _ _ (by kernel_rfl) (by kernel_rfl) (by kernel_rfl) ?_
  have ne : Nonempty (qad (fun W => Blk W w.heap.size 172 (rC q4.1 E4) /\ Blk W G 133 (txC (⟨1, t2, t3, [], [], v4, v1⟩)))) := ⟨⟨_, hAd.k1, hAd.k4⟩⟩
  conv => arg 5; simp [pick]
  refine qam rfl _ _ rfl G rfl _ _ _ _ (fun y => y.h.2) Tryz.underlying133 rfl txInfo8 ?_
  conv => arg 6; simp only [Act.put, sA, sB, sC]
  refine qam rfl _ _ rfl w.heap.size rfl _ _ _ _ (fun y => y.h.1) Tryz.underlying172 rfl (rInfo _ _) ?_
  conv => arg 6; simp only [Act.put, sA, sB, sC]
  refine wpQuiet_nil ?_
  clear ne
  have hGl := hAd.hG
  have kb := qah (ds := txC (⟨1, t2, t3, [], [], v4, v1⟩)) hAd.k3 (show w.heap.size + 1 ≠ w.heap.size + 2 by omega)
  refine qag 2 (by kernel_rfl) rfl ?_
  go_wp2_with (refine wpList_store_row rfl _ _ _ rfl (w.heap.size + 1) (txC (⟨1, t2, t3, [], [], v4, v1⟩)) rfl rfl _ _ hAd.k2 txInfo8 rfl (qbo _) ?_)
  refine stepQ.mk ⟨fun _ => ⟨qah hAd.k1 (by omega), qah hAd.k4 (by omega)⟩, ?_⟩
  refine qag 3 (by kernel_rfl) rfl ?_
  go_wp2_with (refine wpList_store_row rfl _ _ _ rfl (w.heap.size + 2) (rC q4.1 E4) rfl rfl _ _ kb (rInfo _ _) rfl (qap _ _) ?_)
  refine stepQ.mk ⟨fun _ => ⟨qah (qah hAd.k1 (by omega)) (by omega), qah (qah hAd.k4 (by omega)) (by omega)⟩, ?_⟩
  refine qaq [] _ _ _ (by kernel_rfl) ?_
  conv => arg 4; simp [pick]
  go_wp2_with fail
  (try simp only [Exit.inBlock, Exit.then, Act.put])
  refine bodyPost_ret (v := .tuple #[.agg (txC (⟨1, t2, t3, [], [], v4, v1⟩)), .agg (rC q4.1 E4)]) (qas rfl _ _ (w.heap.size + 1) (w.heap.size + 2) rfl rfl _ _ (txC (⟨1, t2, t3, [], [], v4, v1⟩)) (rC q4.1 E4) _ _ _ _ (qah (qac hAd.k2) (by omega)) (qac kb) Tryz.underlying133 rfl txInfo8 Tryz.underlying172 rfl (rInfo _ _)) rfl ?_
  rw [HP.out]
  exact ⟨E4, rfl, hE4, below_setRow (below_setRow hAd.bw (Nat.le_succ _)) (by omega)⟩
 have hk2 : v0 = 2 := by have := H1.out; omega
 subst hk2
 have HT := hid (show takeT p = endT ⟨2, t2, [], t3, t5, 0, v1⟩ q5 by rw [HD.out, if_neg (fun h => h.2 rfl), if_neg (by decide)])
 have hwf := HW.out.2
 clear e12 H1 HD HW C0 hk
 have hA0 : DxAt w w1.heap.size ⟨2, [], [], [], [], 0, 0⟩ q0.1 E0 (w1.alloc (.cells (txC ⟨2, [], [], [], [], 0, 0⟩) 133)) := by
  obtain ⟨k1', k2, k3, hbw⟩ := HK.out
  have hb2 := (Below.refl _ w1).alloc (Nat.le_refl _) (.cells (txC ⟨2, [], [], [], [], 0, 0⟩) 133)
  exact ⟨k1'.below hb2 k1'.lt, k2.below hb2 k2.lt, k3.below hb2 k3.lt, Blk.new _ _ _, nxt hbw hb2, k3.lt⟩
 go_upto_region 5 with (first
  | (refine wpList_build rfl _ _ rfl #[(0, .int .i64 2)] rfl (qiW _ _) ?_)
  | (refine qaf rfl _ _ _ rfl w1 (txC ⟨2, [], [], [], [], 0, 0⟩) rfl rfl _ _ txInfo8 rfl (qbo _) ?_))
 obtain ⟨G, hG⟩ := nm (w1.heap.size)
 rw [<- hG] at hA0 ⊢
 refine qab (fun y0 hy0 => ?_)
 rw [<- hy0] at hA0
 clear hy0 hG HK
 go_upto_region 6 with (first
  | (refine qaa rfl _ _ rfl w.heap.size rfl _ _ _ _ hA0.k1 Tryz.underlying172 rfl (rInfo _ _) ?_)
  | (go_at_call 165; refine (C1.out _ _ hE0).mono ?_; rintro e z1 ⟨E1, rfl, hE1, hb1⟩
     have hB1 := hA0.below hb1
     have o1 : z1.cell? ⟨G, 6, none⟩ = some (.int .i64 0) := hB1.k4.cell 6
     have f1 := hB1.k4.frozen 6
     have hS1 := hB1.set_ 6 (.int .i64 v1) (⟨2, [], [], [], [], 0, v1⟩) rfl)
  | (refine wpList_store_row rfl _ _ _ rfl w.heap.size (rC q1.1 E1) rfl rfl _ _ hS1.k1 (rInfo _ _) rfl (qap _ _) ?_))
 have hA1 := hS1.row q1.1 E1
 clear o1 f1 hS1 hB1 hb1 hA0
 refine qab (fun y1 hy1 => ?_)
 rw [<- hy1] at hA1
 clear hy1
 go_upto_region 7 with (first
  | (refine qaa rfl _ _ rfl w.heap.size rfl _ _ _ _ hA1.k1 Tryz.underlying172 rfl (rInfo _ _) ?_)
  | (go_at_call 192; refine (C2.out _ _ hE1).mono ?_; rintro e z2 ⟨E2, rfl, hE2, hb2⟩
     have hB2 := hA1.below hb2
     have o2 : z2.cell? ⟨G, 1, none⟩ = some (.string ⟨#[]⟩) := hB2.k4.cell 1
     have f2 := hB2.k4.frozen 1
     have hS2 := hB2.set_ 1 (.string (str t2)) (⟨2, t2, [], [], [], 0, v1⟩) rfl)
  | (refine wpList_store_row rfl _ _ _ rfl w.heap.size (rC q2.1 E2) rfl rfl _ _ hS2.k1 (rInfo _ _) rfl (qap _ _) ?_))
 have hA2 := hS2.row q2.1 E2
 clear o2 f2 hS2 hB2 hb2 hA1
 refine qab (fun y2 hy2 => ?_)
 rw [<- hy2] at hA2
 clear hy2
 go_upto_region 11 with (first
  | (refine qaa rfl _ _ rfl w.heap.size rfl _ _ _ _ hA2.k1 Tryz.underlying172 rfl (rInfo _ _) ?_)
  | (go_at_call 192; refine (C3.out _ _ hE2).mono ?_; rintro e z3 ⟨E3, rfl, hE3, hb3⟩
     have hB3 := hA2.below hb3
     have o3 : z3.cell? ⟨G, 3, none⟩ = some (.string ⟨#[]⟩) := hB3.k4.cell 3
     have f3 := hB3.k4.frozen 3
     have hS3 := hB3.set_ 3 (.string (str t3)) (⟨2, t2, [], t3, [], 0, v1⟩) rfl)
  | (refine wpList_store_row rfl _ _ _ rfl w.heap.size (rC q3.1 E3) rfl rfl _ _ hS3.k1 (rInfo _ _) rfl (qap _ _) ?_))
 have hA3 := hS3.row q3.1 E3
 clear o3 f3 hS3 hB3 hb3 hA2
 refine qab (fun y3 hy3 => ?_)
 rw [<- hy3] at hA3
 clear hy3
 go_upto_region 12 with (first
  | (refine qaa rfl _ _ rfl w.heap.size rfl _ _ _ _ hA3.k1 Tryz.underlying172 rfl (rInfo _ _) ?_)
  | (go_at_call 192; refine (C5.out _ _ hE3).mono ?_; rintro e z5 ⟨E5, rfl, hE5, hb5⟩
     have hB5 := hA3.below hb5
     have o5 : z5.cell? ⟨G, 4, none⟩ = some (.string ⟨#[]⟩) := hB5.k4.cell 4
     have f5 := hB5.k4.frozen 4
     have hS5 := hB5.set_ 4 (.string (str t5)) (⟨2, t2, [], t3, t5, 0, v1⟩) rfl)
  | (refine wpList_store_row rfl _ _ _ rfl w.heap.size (rC q5.1 E5) rfl rfl _ _ hS5.k1 (rInfo _ _) rfl (qap _ _) ?_))
 have hA5 := hS5.row q5.1 E5
 clear o5 f5 hS5 hB5 hb5 hA3
 refine qab (fun y5 hy5 => ?_)
 rw [<- hy5] at hA5
 clear hy5
 clear C1 C2 C3 C4 C5
 have b1 : y5.cell? ⟨w.heap.size, 1, none⟩ = some (.int .i64 E5) := hA5.k1.cell 1
 by_cases he : E5 = 0
 case neg =>
  have q1 : (E5 != 0) = true := by simpa using he
  have hf := fun W => qbi q5 E5 80 W hE5
  obtain ⟨QF, hQF⟩ := nm (failS 80 q5)
  rw [<- hQF] at hf
  have HFF := hid hf
  have HP := hid (show takeT p = (zeroX, QF) by rw [HT.out, qgv (.inl (hE5.dead he).1), hQF])
  clear he hf hQF
  go_wp2_with (first
   | (refine wpList_build rfl _ _ rfl #[] rfl (qax _) ?_)
   | (refine qaa rfl _ _ rfl w.heap.size rfl _ _ _ _ hA5.k1 Tryz.underlying172 rfl (rInfo _ _) ?_)
   | (go_at_call 169; refine (HFF.out _).mono ?_; rintro e wf ⟨Ef, rfl, hEf, hbf⟩
      have hAf := hA5.below hbf
      have kb := qah (ds := txC zeroX) hAf.k3 (show w.heap.size + 1 ≠ w.heap.size + 2 by omega))
   | (refine wpList_store_row rfl _ _ _ rfl (w.heap.size + 1) (txC zeroX) rfl rfl _ _ hAf.k2 txInfo8 rfl (qbo _) ?_)
   | (refine wpList_store_row rfl _ _ _ rfl (w.heap.size + 2) (rC QF.1 Ef) rfl rfl _ _ kb (rInfo _ _) rfl (qap _ _) ?_))
  (try simp only [Exit.inBlock, Exit.then, Act.put])
  refine bodyPost_ret (v := .tuple #[.agg (txC zeroX), .agg (rC QF.1 Ef)]) (qas rfl _ _ (w.heap.size + 1) (w.heap.size + 2) rfl rfl _ _ (txC zeroX) (rC QF.1 Ef) _ _ _ _ (qah (qac hAf.k2) (by omega)) (qac kb) Tryz.underlying133 rfl txInfo8 Tryz.underlying172 rfl (rInfo _ _)) rfl ?_
  rw [HP.out]
  exact ⟨Ef, rfl, hEf, below_setRow (below_setRow hAf.bw (Nat.le_succ _)) (by omega)⟩
 have q1 : (E5 != 0) = false := by simpa using he
 have hq0 : q5.2 = 0 := hE5.alive he
 have hck := qa2 (⟨2, t2, [], t3, t5, 0, v1⟩) y5 hwf
 rcases Bool.eq_false_or_eq_true (right (⟨2, t2, [], t3, t5, 0, v1⟩)) with hm | hm
 case inr =>
  rw [hm] at hck
  have hf := fun W => qbi q5 E5 80 W hE5
  obtain ⟨QF, hQF⟩ := nm (failS 80 q5)
  rw [<- hQF] at hf
  have HFF := hid hf
  have HP := hid (show takeT p = (zeroX, QF) by rw [HT.out, qgv (.inr hm), hQF])
  clear he hf hQF hm hq0 hwf
  go_wp2_with (first
   | (refine qaa rfl _ _ rfl G rfl _ _ _ _ hA5.k4 Tryz.underlying133 rfl txInfo8 ?_)
   | (go_at_call 105; refine hck.mono ?_; unfold gives; rintro e wc ⟨rfl, hbc⟩
      have hAc := hA5.below hbc)
   | (refine wpList_build rfl _ _ rfl #[] rfl (qax _) ?_)
   | (refine qaa rfl _ _ rfl w.heap.size rfl _ _ _ _ hAc.k1 Tryz.underlying172 rfl (rInfo _ _) ?_)
   | (go_at_call 169; refine (HFF.out _).mono ?_; rintro e wf ⟨Ef, rfl, hEf, hbf⟩
      have hAf := hAc.below hbf
      have kb := qah (ds := txC zeroX) hAf.k3 (show w.heap.size + 1 ≠ w.heap.size + 2 by omega))
   | (refine wpList_store_row rfl _ _ _ rfl (w.heap.size + 1) (txC zeroX) rfl rfl _ _ hAf.k2 txInfo8 rfl (qbo _) ?_)
   | (refine wpList_store_row rfl _ _ _ rfl (w.heap.size + 2) (rC QF.1 Ef) rfl rfl _ _ kb (rInfo _ _) rfl (qap _ _) ?_))
  (try simp only [Exit.inBlock, Exit.then, Act.put])
  refine bodyPost_ret (v := .tuple #[.agg (txC zeroX), .agg (rC QF.1 Ef)]) (qas rfl _ _ (w.heap.size + 1) (w.heap.size + 2) rfl rfl _ _ (txC zeroX) (rC QF.1 Ef) _ _ _ _ (qah (qac hAf.k2) (by omega)) (qac kb) Tryz.underlying133 rfl txInfo8 Tryz.underlying172 rfl (rInfo _ _)) rfl ?_
  rw [HP.out]
  exact ⟨Ef, rfl, hEf, below_setRow (below_setRow hAf.bw (Nat.le_succ _)) (by omega)⟩
 rw [hm] at hck
 have HP := hid (show takeT p = ((⟨2, t2, [], t3, t5, 0, v1⟩), q5) by rw [HT.out, qlz hq0 hm])
 clear hm hq0 he hwf
 go_upto_region 14 with (first
  | (refine qaa rfl _ _ rfl G rfl _ _ _ _ hA5.k4 Tryz.underlying133 rfl txInfo8 ?_)
  | (go_at_call 105; refine hck.mono ?_; unfold gives; rintro e wc ⟨rfl, hbc⟩))
 clear b1 hck
 have hAd := (hA5.below hbc).drew
 obtain ⟨wd, hwd⟩ := nm (wc.drew)
 rw [<- hwd] at hAd
 refine qak (fun W => Blk W w.heap.size 172 (rC q5.1 E5) /\ Blk W G 133 (txC (⟨2, t2, [], t3, t5, 0, v1⟩))) [0, 1] (by kernel_rfl) ?_
 rw [<- hwd]
 clear hwd hbc
 refine qar (f := 2) (by kernel_rfl) (fun _ x _ _ _ h => by cases x <;> exact h) ⟨hAd.k1, hAd.k4⟩ [0, 1] _ _ (by kernel_rfl) (by kernel_rfl) (by kernel_rfl) ?_
 have ne : Nonempty (qad (fun W => Blk W w.heap.size 172 (rC q5.1 E5) /\ Blk W G 133 (txC (⟨2, t2, [], t3, t5, 0, v1⟩)))) := ⟨⟨_, hAd.k1, hAd.k4⟩⟩
 conv => arg 5; simp [pick]
 refine qam rfl _ _ rfl G rfl _ _ _ _ (fun y => y.h.2) Tryz.underlying133 rfl txInfo8 ?_
 conv => arg 6; simp only [Act.put, sA, sB, sC]
 refine qam rfl _ _ rfl w.heap.size rfl _ _ _ _ (fun y => y.h.1) Tryz.underlying172 rfl (rInfo _ _) ?_
 conv => arg 6; simp only [Act.put, sA, sB, sC]
 refine wpQuiet_nil ?_
 clear ne
 have hGl := hAd.hG
 have kb := qah (ds := txC (⟨2, t2, [], t3, t5, 0, v1⟩)) hAd.k3 (show w.heap.size + 1 ≠ w.heap.size + 2 by omega)
 refine qag 2 (by kernel_rfl) rfl ?_
 go_wp2_with (refine wpList_store_row rfl _ _ _ rfl (w.heap.size + 1) (txC (⟨2, t2, [], t3, t5, 0, v1⟩)) rfl rfl _ _ hAd.k2 txInfo8 rfl (qbo _) ?_)
 refine stepQ.mk ⟨fun _ => ⟨qah hAd.k1 (by omega), qah hAd.k4 (by omega)⟩, ?_⟩
 refine qag 3 (by kernel_rfl) rfl ?_
 go_wp2_with (refine wpList_store_row rfl _ _ _ rfl (w.heap.size + 2) (rC q5.1 E5) rfl rfl _ _ kb (rInfo _ _) rfl (qap _ _) ?_)
 refine stepQ.mk ⟨fun _ => ⟨qah (qah hAd.k1 (by omega)) (by omega), qah (qah hAd.k4 (by omega)) (by omega)⟩, ?_⟩
 refine qaq [] _ _ _ (by kernel_rfl) ?_
 conv => arg 4; simp [pick]
 go_wp2_with fail
 (try simp only [Exit.inBlock, Exit.then, Act.put])
 refine bodyPost_ret (v := .tuple #[.agg (txC (⟨2, t2, [], t3, t5, 0, v1⟩)), .agg (rC q5.1 E5)]) (qas rfl _ _ (w.heap.size + 1) (w.heap.size + 2) rfl rfl _ _ (txC (⟨2, t2, [], t3, t5, 0, v1⟩)) (rC q5.1 E5) _ _ _ _ (qah (qac hAd.k2) (by omega)) (qac kb) Tryz.underlying133 rfl txInfo8 Tryz.underlying172 rfl (rInfo _ _)) rfl ?_
 rw [HP.out]
 exact ⟨E5, rfl, hE5, below_setRow (below_setRow hAd.bw (Nat.le_succ _)) (by omega)⟩
