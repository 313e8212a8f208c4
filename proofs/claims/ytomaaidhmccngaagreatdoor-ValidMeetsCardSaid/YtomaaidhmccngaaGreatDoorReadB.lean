/-
  The next block of a reader, right or not, by the code: whatever is left of its bytes.
-/
import Derived.Test.YtomaaidhmccngaaGreatDoorListB
set_option linter.unusedSimpArgs false
set_option linter.unusedVariables false
set_option maxRecDepth 10000
namespace Go.Proofs.YtomaaidhmccngaaGreatDoor
open Go.RowKit Go.Maps Go.Lib
open L3 (Blk Reads Rdr leaves numS failS rdN mostV mostS)
open L6 (Turn)
open L11 (Crt zeroC crtL crtC mayV takeC crtInfo crtC_ones)

/-! What is read is bounded -/
theorem takeC_wf (p : List UInt8 × Int) : (takeC p).1.wf := by
  unfold L11.takeC
  split
  · exact L11.zeroC_wf
  · exact L11.readC_wf p
theorem takeT_wf (p : List UInt8 × Int) : (takeT p).1.wf 1000000 := by
  rw [take_read]
  unfold endT
  split
  · exact zeroX_wf _
  · exact readT_wf p
theorem numV_pos (p : List UInt8 × Int) : 0 ≤ numV p := (num_at p).1
theorem listG_wf {α : Type} (one : List UInt8 × Int → α × (List UInt8 × Int)) (Q : α → Prop) (h : ∀ q, Q (one q).1) (n : Nat) (p : List UInt8 × Int) : ∀ t ∈ listG one n p, Q t := by
  intro t ht
  unfold listG at ht
  obtain ⟨k, _, rfl⟩ := List.mem_map.1 ht
  exact h _
theorem readB_wf (p : List UInt8 × Int) : (readB p).1.wf := by
  obtain ⟨v, c, q, s, n, s2, m, s3, ev, ec, es, en, es2, em, es3, hz⟩ := readB_parts p
  rw [hz]
  have hc := takeC_wf (rS p)
  rw [ec] at hc
  have r1 := mostV_rng 10 q (by omega)
  have r2 := mostV_rng 8 s2 (by omega)
  have hv : inI v := by rw [ev]; exact fitB_in _ (numV_pos p)
  refine ⟨hv, fitB_in _ (numV_pos _), fitB_in _ (numV_pos _), fitB_in _ (numV_pos _), hc, ?_, ?_, ?_, ?_⟩
  · exact listG_wf _ (fun t : Tmo => t.wf) (fun q => ⟨fitB_in _ (numV_pos _), hv, takeC_wf _⟩) _ _
  · exact listG_wf _ (fun t : Txx => t.wf 1000000) (fun q => takeT_wf q) _ _
  · show (listG (oneT v) n s).length ≤ 1000
    rw [listG_len, en]; omega
  · show (listG takeT m s3).length ≤ 1000
    rw [listG_len, em]; omega

/-- A block's lists, in memory from B on. -/
def LiesF (B : Nat) (w : World) (b : Blo) (P T : Value) : Prop :=
  ∃ A c D d, P = .slice A b.proof.length c ∧ T = .slice D b.txs.length d ∧ Rd tmL 10 w A b.proof ∧ Rd txL 7 w D b.txs ∧ (∀ ad, A = some ad → B ≤ ad.block) ∧ (∀ ad, D = some ad → B ≤ ad.block)
theorem LiesF.lies {B : Nat} {w : World} {b : Blo} {P T : Value} (h : LiesF B w b P T) : Lies w b P T := by
  obtain ⟨A, c, D, d, h1, h2, h3, h4, _⟩ := h
  exact ⟨A, c, D, d, h1, h2, h3, h4⟩
theorem LiesF.turn {B : Nat} {S : Nat → Prop} {w w' : World} {b : Blo} {P T : Value} (h : LiesF B w b P T) (ht : Turn S w w') (hS : ∀ k, S k → k < B) : LiesF B w' b P T := by
  obtain ⟨A, c, D, d, h1, h2, h3, h4, h5, h6⟩ := h
  exact ⟨A, c, D, d, h1, h2, h3.kept ht (Off.of_ge h5 hS), h4.kept ht (Off.of_ge h6 hS), h5, h6⟩
theorem LiesF.le {B B' : Nat} {w : World} {b : Blo} {P T : Value} (h : LiesF B w b P T) (hB : B' ≤ B) : LiesF B' w b P T := by
  obtain ⟨A, c, D, d, h1, h2, h3, h4, h5, h6⟩ := h
  exact ⟨A, c, D, d, h1, h2, h3, h4, fun ad e => Nat.le_trans hB (h5 ad e), fun ad e => Nat.le_trans hB (h6 ad e)⟩
theorem liesF_zero (B : Nat) (w : World) : LiesF B w zeroB (.slice none 0 0) (.slice none 0 0) := ⟨none, 0, none, 0, rfl, rfl, Rd.nil, Rd.nil, fun ad e => (by cases e), fun ad e => (by cases e)⟩
theorem turn_cell (w : World) (g i : Nat) (u : Value) : Turn (fun k => k = g) w (w.setCell ⟨g, i, none⟩ u) :=
  ⟨rfl, rfl, rfl, by simp [World.setCell], fun k hk hn => Below.heap_setCell w ⟨g, i, none⟩ u k hn⟩
theorem turn_leaves {w w' : World} {g : Nat} (h : w.grownBy w' (some g)) : Turn (fun k => k = g) w w' := L6.Turn.of_grown h (fun k e => by injection e with e; exact e.symm)
theorem build_bk (v r h a : Int) (c : Crt) (w : World) : (Instr.build 57 #[(0, .int .i64 v), (1, .int .i64 r), (2, .int .i64 h), (3, .int .i64 a), (4, .agg (crtC c))]).run Tryz.prog w = .ok (.agg (bloC ⟨v, r, h, a, c, [], []⟩ (.slice none 0 0) (.slice none 0 0))) w := run_build w _ _ _ (by kernel_rfl)
/-- What holds of the world while a block is read. -/
structure RdAt (w : World) (g G : Nat) (b : Blo) (P T : Value) (q : List UInt8 × Int) (W : World) : Prop where
  rdr : Rdr W g q
  re : Blk W w.heap.size 57 (bloC zeroB (.slice none 0 0) (.slice none 0 0))
  bx : Blk W G 57 (bloC b P T)
  gr : w.grownBy W (some g)
  lt : g < w.heap.size ∧ w.heap.size < G
section
variable {w W W' : World} {g G : Nat} {b : Blo} {P T : Value} {q q' : List UInt8 × Int}
theorem RdAt.next (h : RdAt w g G b P T q W) (hl : leaves g q' W W') : RdAt w g G b P T q' W' := by
  have hg := h.lt
  exact ⟨hl.1, h.re.grown hl.2 (fun e => by injection e with e; omega), h.bx.grown hl.2 (fun e => by injection e with e; omega), L3.grown_trans h.gr hl.2, hg⟩
theorem RdAt.set_ (h : RdAt w g G b P T q W) (i : Nat) (u : Value) (b' : Blo) (P' T' : Value) (he : (bloC b P T).setIfInBounds i u = bloC b' P' T') : RdAt w g G b' P' T' q (W.setCell ⟨G, i, none⟩ u) := by
  have hg := h.lt
  refine ⟨rdr_set h.rdr (by omega) u, h.re.far (by show w.heap.size ≠ G; omega) u, ?_, grown_new h.gr (by omega) u, hg⟩
  rw [← he]
  exact h.bx.set_ i u
theorem RdAt.mk' {w2 : World} (h : Rdr w g q') (hl : leaves g q (w.alloc (.cells (bloC zeroB (.slice none 0 0) (.slice none 0 0)) 57)) w2) (b : Blo) (P T : Value) : RdAt w g w2.heap.size b P T q (w2.alloc (.cells (bloC b P T) 57)) := by
  have hg := h.lt
  have hs := hl.2.size
  simp only [World.alloc, Array.size_push] at hs
  exact ⟨rdr_alloc hl.1 _, ((blo_new w _ zeroB _ _).grown hl.2 (fun e => by injection e with e; omega)).alloc _, blo_new _ _ _ _ _, L3.grown_trans (L3.grown_trans (World.grownBy_alloc w _ _) hl.2) (World.grownBy_alloc _ _ _), hg, by omega⟩
end
set_option maxHeartbeats 4000000 in
set_option maxRecDepth 100000 in
theorem readB_any (g : Nat) (p : List UInt8 × Int) (w : World) (h : Rdr w g p) (hT : ∀ W, w.grownBy W (some g) → Tabs W) :
    Calls Tryz.prog 162 #[.pointer (some ⟨g, 0, none⟩)] w fun e w' => ∃ P T, e = .returned (.agg (bloC (readB p).1 P T)) ∧ LiesF (w.heap.size + 1) w' (readB p).1 P T ∧ leaves g (readB p).2 w w' := by
  have HR0 : Hid (Rdr (w.alloc (.cells (bloC zeroB (.slice none 0 0) (.slice none 0 0)) 57)) g p) := Lib.hid (rdr_alloc h _)
  have HM := Lib.hid (fun w2 q (hl : leaves g q (w.alloc (.cells (bloC zeroB (.slice none 0 0) (.slice none 0 0)) 57)) w2) (b : Blo) (P T : Value) => RdAt.mk' h hl b P T)
  obtain ⟨v, c, q, s, n, s2, m, s3, ev, ec, es, en, es2, em, es3, hz⟩ := readB_parts p
  rw [hz]
  clear hz
  have hn0 := fun W h => c_rnum g p W h
  have hn1 := fun W h => c_rnum g (numS p) W h
  have hn2 := fun W h => c_rnum g (numS (numS p)) W h
  have hn3 := fun W h => c_rnum g (numS (numS (numS p))) W h
  have ht := fun W h => c_take g (rS p) W h
  rw [ec] at ht
  have hrs : numS (numS (numS (numS p))) = rS p := rfl
  rw [hrs] at hn3
  obtain ⟨q4, e4⟩ : ∃ x, x = rS p := ⟨_, rfl⟩
  rw [← e4] at ht hn3
  obtain ⟨z3, f3⟩ : ∃ x, x = numV (numS (numS (numS p))) := ⟨_, rfl⟩
  obtain ⟨q3, e3⟩ : ∃ x, x = numS (numS (numS p)) := ⟨_, rfl⟩
  rw [← f3, ← e3] at hn3
  rw [← f3]
  rw [← e3] at hn2
  obtain ⟨z2, f2⟩ : ∃ x, x = numV (numS (numS p)) := ⟨_, rfl⟩
  obtain ⟨q2, e2⟩ : ∃ x, x = numS (numS p) := ⟨_, rfl⟩
  rw [← f2, ← e2] at hn2
  rw [← f2]
  rw [← e2] at hn1
  obtain ⟨z1, f1⟩ : ∃ x, x = numV (numS p) := ⟨_, rfl⟩
  obtain ⟨q1, e1⟩ : ∃ x, x = numS p := ⟨_, rfl⟩
  rw [← f1, ← e1] at hn1
  rw [← f1]
  rw [← e1] at hn0
  obtain ⟨z0, f0⟩ : ∃ x, x = numV p := ⟨_, rfl⟩
  rw [← f0] at hn0 ev
  have HH := Lib.hid (And.intro hn0 (And.intro hn1 (And.intro hn2 (And.intro hn3 ht))))
  have hl2 : listG (oneT v) n s = listG (oneT v) (mostV 10 q).toNat (mostS 10 q) := by rw [en, es]
  have hi2 : s2 = itG (oneT v) (mostV 10 q).toNat (mostS 10 q) := by rw [es2, en, es]
  have hl3 : listG takeT m s3 = listG takeT (mostV 8 s2).toNat (mostS 8 s2) := by rw [em, es3]
  have hi3 : itG takeT m s3 = itG takeT (mostV 8 s2).toNat (mostS 8 s2) := by rw [em, es3]
  have HRT := Lib.hid (fun (W : World) (G : Nat) (hr : Rdr W g q) (hG : W.cell? ⟨G, 0, none⟩ = some (.int .i64 v)) (hne : G ≠ g) => readTs_any g G v 10 q W hr hG hne (by omega) (by omega))
  have HRX := Lib.hid (fun (W : World) (hr : Rdr W g s2) (hg : w.grownBy W (some g)) => readXs_any g 8 s2 W hr (fun W2 h2 => hT W2 (L3.grown_trans hg h2)) (by omega) (by omega))
  rw [← hl2, ← hi2] at HRT
  rw [← hl3, ← hi3] at HRX
  obtain ⟨L, eL⟩ : ∃ L, L = listG (oneT v) n s := ⟨_, rfl⟩
  obtain ⟨X, eX⟩ : ∃ X, X = listG takeT m s3 := ⟨_, rfl⟩
  obtain ⟨qe, eqe⟩ : ∃ q, q = itG takeT m s3 := ⟨_, rfl⟩
  rw [← eL] at HRT ⊢
  rw [← eX, ← eqe] at HRX ⊢
  have EV := Lib.hid ev
  clear hn0 hn1 hn2 hn3 ht ev ec es en es2 em es3 hrs e4 f3 e3 f2 e2 f1 e1 f0 hl2 hi2 hl3 hi3 eL eX eqe hT h
  go_enter Tryz.func162, Tryz.ntmps162
  go_upto_region 1 with fail
  refine name_world (fun w0 hw0 => ?_)
  have hR0 : Rdr w0 g p := by rw [hw0]; exact HR0.out
  have HM0 : Hid (∀ w2 q, leaves g q w0 w2 → ∀ (b : Blo) (P T : Value), RdAt w g w2.heap.size b P T q (w2.alloc (.cells (bloC b P T) 57))) := Lib.hid (by rw [hw0]; exact HM.out)
  clear hw0 HM HR0
  go_upto_region 2 with (first
    | (go_at_call 183; (with_reducible refine (HH.out.1 _ hR0).mono ?_); rintro e w1 ⟨rfl, hl1⟩; have hd1 := hl1.1)
    | (go_at_call 183; (with_reducible refine (HH.out.2.1 _ hd1).mono ?_); rintro e w2 ⟨rfl, hl2⟩; have hd2 := hl2.1)
    | (go_at_call 183; (with_reducible refine (HH.out.2.2.1 _ hd2).mono ?_); rintro e w3 ⟨rfl, hl3⟩; have hd3 := hl3.1)
    | (go_at_call 183; (with_reducible refine (HH.out.2.2.2.1 _ hd3).mono ?_); rintro e w4 ⟨rfl, hl4⟩; have hd4 := hl4.1)
    | (go_at_call 182; refine (fitB_any _ _).mono ?_; rintro e x ⟨rfl, rfl⟩)
    | (go_at_call 184; refine (HH.out.2.2.2.2 _ hd4).mono ?_; rintro e w5 ⟨rfl, hl5⟩)
    | (refine wpList_build rfl _ _ rfl #[(0, .int .i64 (fitB z0)), (1, .int .i64 (fitB z1)), (2, .int .i64 (fitB z2)), (3, .int .i64 (fitB z3)), (4, .agg (crtC c))] rfl (build_bk _ _ _ _ _ _) ?_)
    | (refine wpList_store_new rfl _ _ _ rfl _ (bloC ⟨fitB z0, fitB z1, fitB z2, fitB z3, c, [], []⟩ (.slice none 0 0) (.slice none 0 0)) rfl rfl _ _ bloInfo rfl (bloC_ones _ _ _ _ _ _ _) ?_))
  have hA := HM0.out _ _ ((((hl1.trans hl2).trans hl3).trans hl4).trans hl5) ⟨fitB z0, fitB z1, fitB z2, fitB z3, c, [], []⟩ (.slice none 0 0) (.slice none 0 0)
  obtain ⟨G, hG⟩ : ∃ G, G = w5.heap.size := ⟨_, rfl⟩
  rw [← hG] at hA
  rw [← hG]
  refine name_world (fun w6 hw6 => ?_)
  rw [← hw6] at hA
  clear hG hd1 hd2 hd3 hd4 hl1 hl2 hl3 hl4 hl5 hw6 HM0 hR0 HH
  rw [← EV.out] at hA ⊢
  have hlt := hA.lt
  have hG0 : w6.cell? ⟨G, 0, none⟩ = some (.int .i64 v) := hA.bx.cell 0
  have hTs := HRT.out w6 G hA.rdr hG0 (by omega)
  go_upto_region 3 with (first
    | (go_at_call 185; refine hTs.mono ?_; rintro e w7 ⟨v7, rfl, hr7, hl7⟩
       obtain ⟨A7, c7, rfl, hp7, ho7⟩ := Rd.of_row (f := tmL) (k := 10) (fun _ => rfl) hr7
       have hA7 := hA.next hl7
       have f12 := hA7.bx.frozen 12
       have b12 : w7.cell? ⟨G, 12, none⟩ = some (.slice none 0 0) := hA7.bx.cell 12))
  have hB := hA7.set_ 12 (.slice A7 L.length c7) ⟨v, fitB z1, fitB z2, fitB z3, c, L, []⟩ (.slice A7 L.length c7) (.slice none 0 0) rfl
  have hpB : Rd tmL 10 (w7.setCell ⟨G, 12, none⟩ (.slice A7 L.length c7)) A7 L := hp7.kept (turn_cell _ _ _ _) (Off.of_ge (B := w6.heap.size) (fun ad e => (ho7 ad e).1) (fun k hk => by have := hA.bx.lt; omega))
  have hoB : ∀ ad, A7 = some ad → w.heap.size + 1 ≤ ad.block := fun ad e => by have h1 := (ho7 ad e).1; have h2 := hA.bx.lt; have h3 := hA.lt.2; omega
  have HOFF : Off (fun k => k = G) A7 := Off.of_ge (B := w6.heap.size) (fun ad e => (ho7 ad e).1) (fun k hk => by have := hA.bx.lt; omega)
  refine name_world (fun w8 hw8 => ?_)
  rw [← hw8] at hB hpB
  clear hw8 hTs hA hA7 hr7 hl7 f12 b12 hp7 ho7 hG0
  have hXs := HRX.out w8 hB.rdr hB.gr
  go_upto_region 4 with (first
    | (go_at_call 187; refine hXs.mono ?_; rintro e w9 ⟨v9, rfl, hr9, hl9⟩
       obtain ⟨A9, c9, rfl, hp9, ho9⟩ := Rd.of_row (f := txL) (k := 7) (fun _ => rfl) hr9
       have hB9 := hB.next hl9
       have f13 := hB9.bx.frozen 13
       have b13 : w9.cell? ⟨G, 13, none⟩ = some (.slice none 0 0) := hB9.bx.cell 13))
  have hC := hB9.set_ 13 (.slice A9 X.length c9) ⟨v, fitB z1, fitB z2, fitB z3, c, L, X⟩ (.slice A7 L.length c7) (.slice A9 X.length c9) rfl
  have hpC : Rd tmL 10 (w9.setCell ⟨G, 13, none⟩ (.slice A9 X.length c9)) A7 L := (hpB.kept (turn_leaves hl9.2) (Off.of_ge hoB (fun k hk => by omega))).kept (turn_cell _ _ _ _) HOFF
  have hxC : Rd txL 7 (w9.setCell ⟨G, 13, none⟩ (.slice A9 X.length c9)) A9 X := hp9.kept (turn_cell _ _ _ _) (Off.of_ge (B := w8.heap.size) (fun ad e => (ho9 ad e).1) (fun k hk => by have := hB.bx.lt; omega))
  have hoC : ∀ ad, A9 = some ad → w.heap.size + 1 ≤ ad.block := fun ad e => by have h1 := (ho9 ad e).1; have h2 := hB.bx.lt; have h3 := hB.lt.2; omega
  refine name_world (fun w10 hw10 => ?_)
  rw [← hw10] at hC hpC hxC
  clear hw10 hXs hB hB9 hr9 hl9 f13 b13 hp9 ho9 hpB
  go_wp2_with (first
    | (refine wpList_row_at rfl _ _ rfl G rfl _ _ _ _ hC.bx Tryz.underlying57 rfl bloInfo ?_)
    | (refine wpList_store_row rfl _ _ _ rfl w.heap.size (bloC ⟨v, fitB z1, fitB z2, fitB z3, c, L, X⟩ (.slice A7 L.length c7) (.slice A9 X.length c9)) rfl rfl _ _ hC.re bloInfo rfl (bloC_ones _ _ _ _ _ _ _) ?_))
  (try simp only [Exit.inBlock, Exit.then])
  refine bodyPost_ret (v := .agg (bloC ⟨v, fitB z1, fitB z2, fitB z3, c, L, X⟩ (.slice A7 L.length c7) (.slice A9 X.length c9))) (results_row rfl _ _ w.heap.size rfl _ _ _ _ (blk_setRow hC.re) Tryz.underlying57 rfl bloInfo) rfl ?_
  refine ⟨.slice A7 L.length c7, .slice A9 X.length c9, rfl, ?_, rdr_row hC.rdr hlt.1 _, grown_row hC.gr (Nat.le_refl _) _⟩
  have ht := turn_row w10 w.heap.size (bloC ⟨v, fitB z1, fitB z2, fitB z3, c, L, X⟩ (.slice A7 L.length c7) (.slice A9 X.length c9))
  exact ⟨A7, c7, A9, c9, rfl, rfl, hpC.kept ht (Off.of_ge hoB (fun k hk => by omega)), hxC.kept ht (Off.of_ge hoC (fun k hk => by omega)), hoB, hoC⟩
end Go.Proofs.YtomaaidhmccngaaGreatDoor
