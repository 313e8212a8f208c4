/-
  The walk of the law on what stays valid, and on two quorums that meet.
-/
import Derived.Test.YtomaaidhmccngaaGreatDoorV4
import Derived.Test.YtomaaidhmccngaaGreatDoorV6
import Derived.BigQuiet
set_option linter.unusedSimpArgs false
set_option linter.unusedVariables false
set_option maxRecDepth 10000
namespace Go.Proofs.YtomaaidhmccngaaGreatDoor
open Go.RowKit Go.Maps Go.Lib
open L3 (Blk Reads)
open L6 (Turn)
open L4 (cnt bts more)
open L7 (Shr shrC shrL issL)
open L5 (enterL)
open L11 (Crt crtC mayV stmC stmV wpQuiet_fn)

theorem four_boxes (w : World) (t u s r : TypeId) (x y z v : Array Value) : Blk ((((w.alloc (.cells x t)).alloc (.cells y u)).alloc (.cells z s)).alloc (.cells v r)) w.heap.size t x ∧ Blk ((((w.alloc (.cells x t)).alloc (.cells y u)).alloc (.cells z s)).alloc (.cells v r)) (w.heap.size + 1) u y ∧ Blk ((((w.alloc (.cells x t)).alloc (.cells y u)).alloc (.cells z s)).alloc (.cells v r)) (w.heap.size + 2) s z ∧ Blk ((((w.alloc (.cells x t)).alloc (.cells y u)).alloc (.cells z s)).alloc (.cells v r)) (w.heap.size + 3) r v ∧ Below w.heap.size w ((((w.alloc (.cells x t)).alloc (.cells y u)).alloc (.cells z s)).alloc (.cells v r)) := by
  obtain ⟨h1, h2, h3, h4⟩ := three_boxes w t u s x y z
  refine ⟨h1.alloc _, h2.alloc _, h3.alloc _, ?_, h4.alloc h4.size _⟩
  have := Blk.new (((w.alloc (.cells x t)).alloc (.cells y u)).alloc (.cells z s)) r v
  simpa using this
structure MsAt (w : World) (x y : InV) (a b : InA) (c d : Crt) (W : World) : Prop where
  bi : Blk W w.heap.size 27 (inC x a)
  bj : Blk W (w.heap.size + 1) 27 (inC y b)
  bc : Blk W (w.heap.size + 2) 29 (crtC c)
  bd : Blk W (w.heap.size + 3) 29 (crtC d)
  hx : InAt x a W
  hy : InAt y b W
  bw : Below w.heap.size w W
theorem MsAt.below {w W W' : World} {x y : InV} {a b : InA} {c d : Crt} (h : MsAt w x y a b c d W) (hb : Below W.heap.size W W') : MsAt w x y a b c d W' := ⟨h.bi.below hb h.bi.lt, h.bj.below hb h.bj.lt, h.bc.below hb h.bc.lt, h.bd.below hb h.bd.lt, h.hx.below hb, h.hy.below hb, nxt h.bw hb⟩
structure MtAt (w : World) (x y : InV) (a b : InA) (c d : Crt) (G : Nat) (L : Array Value) (W : World) : Prop where
  ms : MsAt w x y a b c d W
  kl : Blk W G 39 L
theorem MtAt.below {w W W' : World} {x y : InV} {a b : InA} {c d : Crt} {G : Nat} {L : Array Value} (h : MtAt w x y a b c d G L W) (hb : Below W.heap.size W W') : MtAt w x y a b c d G L W' := ⟨h.ms.below hb, h.kl.below hb h.kl.lt⟩
theorem mt_six {w w8 W : World} {x y : InV} {a b : InA} {c d : Crt} {G n : Nat} {L : Array Value} {P : Nat → Prop} {b1 g1 c1 b2 g2 c2 : Nat} {R R2 : Regs} {N N2 : List Int} {B : Nat} (h : MtAt w x y a b c d G L w8) (hi : InAt x a w ∧ InAt y b w) (hn : w.heap.size + 3 < n) (hP : ∀ k, k < n → P k) (hG : P G) (s : Six w8 P b1 g1 c1 b2 g2 c2 R R2 N N2 B W) : MtAt w x y a b c d G L W := by
  have hb : Below w.heap.size w W := below_of_P h.ms.bw (fun k hk => hP k (by omega)) s.tn
  exact ⟨⟨s.blk h.ms.bi (hP _ (by omega)), s.blk h.ms.bj (hP _ (by omega)), s.blk h.ms.bc (hP _ (by omega)), s.blk h.ms.bd (hP _ (by omega)), hi.1.below hb, hi.2.below hb, hb⟩, s.blk h.kl hG⟩
/-- A contract that leaves the world, met in a region that only reads. -/
theorem quiet_left {P : Program} {f : FuncId} {args : Array Value} {w : World} {n : Nat} {v : Value} (h : Calls P f args (w.drewN n) fun e w' => e = .returned v ∧ w.drewN n = w') :
    Calls P f args (w.drewN n) fun e w'' => e = .returned v ∧ ∃ m, w'' = w.drewN m := h.mono fun _ _ ⟨he, hw⟩ => ⟨he, n, hw.symm⟩
theorem drewN_bl {B : Nat} {a w : World} (h : Below B a w) (q : Nat) : Below B a (w.drewN q) := ⟨h.os, h.tape, h.output, h.size, h.block⟩
/-- What is held while the shares behind both are counted. -/
structure NqAt (w w8 w9 : World) (x y : InV) (a b : InA) (c d : Crt) (P : Nat → Prop) (G : Nat) (b1 g1 c1 b2 g2 c2 : Nat) (L : Array Value) (R R2 : Regs) (N N2 : List Int) (B : Nat) (W : World) : Prop where
  six : Six w8 P b1 g1 c1 b2 g2 c2 R R2 N N2 B W
  mt : MtAt w x y a b c d G L W
  bl : Below w9.heap.size w9 W
theorem NqAt.below {w w8 w9 : World} {x y : InV} {a b : InA} {c d : Crt} {P : Nat → Prop} {G : Nat} {b1 g1 c1 b2 g2 c2 : Nat} {L : Array Value} {R R2 : Regs} {N N2 : List Int} {B : Nat} {W W' : World} (h : NqAt w w8 w9 x y a b c d P G b1 g1 c1 b2 g2 c2 L R R2 N N2 B W) (hb : Below W.heap.size W W') : NqAt w w8 w9 x y a b c d P G b1 g1 c1 b2 g2 c2 L R R2 N N2 B W' := ⟨h.six.below hb, h.mt.below hb, nxt h.bl hb⟩
theorem six_counts' {w W : World} {P : Nat → Prop} {b g c b2 g2 c2 : Nat} {R R2 : Regs} {N N2 : List Int} {B : Nat} (h : Six w P b g c b2 g2 c2 R R2 N N2 B W) (hw : R.wf) (y : Shr) (hy : y.wf) : Calls Tryz.prog 34 #[.pointer (some ⟨g, 0, none⟩), .agg (shrC y)] W (gives (.int .i64 (L7.cntE R.f R.bad R.L y)) W) := by
  obtain ⟨⟨U, V, h1, _⟩, _, _⟩ := h
  exact trio_counts h1 hw y hy
/-- A share of a list, a text of a list: where they lie. -/
theorem mt_share {w W : World} {x y : InV} {a b : InA} {c d : Crt} {G : Nat} {L : Array Value} {ad : Addr} {k : Nat} (h : MtAt w x y a b c d G L W) (hA : b.A3 = some ad) (hk : k < y.ss.length) : ∀ j u, (shrL y.ss[k])[j]? = some u → W.cell? ((ad.add (k * 11)).add j) = some u := sh_cells (by have := h.ms.hy.r3; rw [hA] at this; exact this) hk
theorem mt_text {w W : World} {x y : InV} {a b : InA} {c d : Crt} {G : Nat} {L : Array Value} {ad : Addr} {k : Nat} (h : MtAt w x y a b c d G L W) (hA : b.A2 = some ad) (hk : k < y.cs.length) : W.cell? (ad.add k) = some (.string (str y.cs[k])) := st_cell (by have := h.ms.hy.r2; rw [hA] at this; exact this) hk
set_option maxHeartbeats 16000000 in
set_option maxRecDepth 100000 in
theorem meet_walk (x y : InV) (a b : InA) (c d : Crt) (w : World) (hx : x.raw) (hy : y.raw) (hc : c.wf) (hd : d.wf) (hix : InAt x a w) (hiy : InAt y b w) (hT : T13 w) :
    Calls Tryz.prog 5 #[.agg (inC x a), .agg (inC y b), .agg (crtC c), .agg (crtC d)] w (gives (.bool true) w) := by
  have Z := four_boxes w 27 27 29 29 (inC x a) (inC y b) (crtC c) (crtC d)
  have N0 := Lib.hid (show MsAt w x y a b c d _ from ⟨Z.1, Z.2.1, Z.2.2.1, Z.2.2.2.1, hix.below Z.2.2.2.2, hiy.below Z.2.2.2.2, Z.2.2.2.2⟩)
  have HT := Lib.hid (fun w' (hb : Below w.heap.size w w') => hT.kept hb)
  have HX := Lib.hid (And.intro hx (And.intro hy (And.intro hc hd)))
  have HI := Lib.hid (And.intro hix hiy)
  clear hix hiy hT hx hy hc hd Z
  go_enter Tryz.func5, Tryz.ntmps5
  go_upto_region 1 with fail
  refine name_world (fun w0 hw0 => ?_)
  have hA0 : MsAt w x y a b c d w0 := by rw [hw0]; exact N0.out
  clear hw0 N0
  have hal := aliveV_any w0 (HT.out _ hA0.bw)
  go_upto_region 3 with (first
    | (go_at_call 8; refine hal.mono ?_; unfold gives; rintro e w1 ⟨rfl, hb1⟩))
  have hA1 := hA0.below hb1
  clear hA0 hb1 hal
  have hfr := far_any x a w1 HX.out.1 hA1.hx
  rcases Bool.eq_false_or_eq_true (farV x) with hf | hf
  · rw [hf] at hfr
    clear hf
    go_wp2_with (first
      | (refine wpList_row_at rfl _ _ rfl w.heap.size rfl _ _ _ _ hA1.bi Tryz.underlying27 rfl inInfo ?_)
      | (go_at_call 9; refine hfr.mono ?_; unfold gives; rintro e w2 ⟨rfl, hb2⟩))
    go_ret
    exact ⟨rfl, nxt hA1.bw hb2⟩
  rw [hf] at hfr
  have hwx := far_small HX.out.1 hf
  clear hf
  have hfr2 := fun W (h : MsAt w x y a b c d W) => far_any y b W HX.out.2.1 h.hy
  rcases Bool.eq_false_or_eq_true (farV y) with hf | hf
  · rw [hf] at hfr2
    have HF2 := Lib.hid hfr2
    clear hf hfr2
    go_wp2_with (first
      | (refine wpList_row_at rfl _ _ rfl w.heap.size rfl _ _ _ _ hA1.bi Tryz.underlying27 rfl inInfo ?_)
      | (refine wpList_row_at rfl _ _ rfl (w.heap.size + 1) rfl _ _ _ _ hA2.bj Tryz.underlying27 rfl inInfo ?_)
      | (go_at_call 9; (with_reducible refine hfr.mono ?_); unfold gives; rintro e w2 ⟨rfl, hb2⟩
         have hA2 := hA1.below hb2
         have hf2 := HF2.out _ hA2)
      | (go_at_call 9; (with_reducible refine hf2.mono ?_); unfold gives; rintro e w3 ⟨rfl, hb3⟩))
    go_ret
    exact ⟨rfl, nxt hA2.bw hb3⟩
  rw [hf] at hfr2
  have hwy := far_small HX.out.2.1 hf
  have HF2 := Lib.hid hfr2
  clear hf hfr2
  go_upto_region 5 with (first
      | (refine wpList_row_at rfl _ _ rfl w.heap.size rfl _ _ _ _ hA1.bi Tryz.underlying27 rfl inInfo ?_)
      | (refine wpList_row_at rfl _ _ rfl (w.heap.size + 1) rfl _ _ _ _ hA2.bj Tryz.underlying27 rfl inInfo ?_)
      | (go_at_call 9; (with_reducible refine hfr.mono ?_); unfold gives; rintro e w2 ⟨rfl, hb2⟩
         have hA2 := hA1.below hb2
         have hf2 := HF2.out _ hA2)
      | (go_at_call 9; (with_reducible refine hf2.mono ?_); unfold gives; rintro e w3 ⟨rfl, hb3⟩))
  have hA3 := hA2.below hb3
  clear hA1 hb2 hfr hA2 hf2 hb3 HF2
  by_cases hn : L7.newE x.f x.bad = 0
  case neg =>
    have hL := laws_bad x a w3 hwx.f hwx.bad hn
    clear hn
    go_wp2_with (first
      | (refine wpList_row_at rfl _ _ rfl w.heap.size rfl _ _ _ _ hA3.bi Tryz.underlying27 rfl inInfo ?_)
      | (go_at_call 10; refine hL.mono ?_; unfold gives; rintro e w4 ⟨rfl, hb4⟩
         have Z := Lib.hid (law_boxes w4 none none none none none none))
      | (refine wpList_store_row rfl _ _ _ rfl w4.heap.size (lawA none none none) rfl rfl _ _ Z.out.1 lawInfo rfl (lawA_ones _ _ _) ?_)
      | (refine wpList_store_row rfl _ _ _ rfl (w4.heap.size + 1) (lawA none none none) rfl rfl _ _ Z.out.2.1 rlawInfo rfl (lawA_ones _ _ _) ?_))
    go_ret
    exact ⟨rfl, nxt (nxt hA3.bw hb4) Z.out.2.2.2.2⟩
  have HL := Lib.hid ((laws_ok x a w3 hwx hA3.hx (HT.out _ hA3.bw) hn).mono (R' := fun e W' => ∃ b g cc b2 g2 c2 : Nat, e = .returned (.tuple #[.agg (lawA (some ⟨b, 0, none⟩) (some ⟨g, 0, none⟩) (some ⟨cc, 0, none⟩)), .agg (lawA (some ⟨b2, 0, none⟩) (some ⟨g2, 0, none⟩) (some ⟨c2, 0, none⟩)), .bool true]) ∧ Six w3 (fun k => k < w3.heap.size) b g cc b2 g2 c2 (regsV x) (regsV x) [] [] 20 W') (by
    rintro e W' (⟨h1, _⟩ | ⟨_, h⟩)
    · exact absurd hn h1
    · exact h))
  have HR := Lib.hid (And.intro hwx (And.intro hwy hn))
  clear hn hwx hwy
  go_upto_region 6 with (first
    | (refine wpList_row_at rfl _ _ rfl w.heap.size rfl _ _ _ _ hA3.bi Tryz.underlying27 rfl inInfo ?_)
    | (go_at_call 10; refine HL.out.mono ?_; rintro e w4 ⟨b1, g1, c1, b2, g2, c2, rfl, h4⟩
       have Z := Lib.hid (law_boxes w4 (some ⟨b1, 0, none⟩) (some ⟨g1, 0, none⟩) (some ⟨c1, 0, none⟩) (some ⟨b2, 0, none⟩) (some ⟨g2, 0, none⟩) (some ⟨c2, 0, none⟩)))
    | (refine wpList_store_row rfl _ _ _ rfl w4.heap.size (lawA (some ⟨b1, 0, none⟩) (some ⟨g1, 0, none⟩) (some ⟨c1, 0, none⟩)) rfl rfl _ _ Z.out.1 lawInfo rfl (lawA_ones _ _ _) ?_)
    | (refine wpList_store_row rfl _ _ _ rfl (w4.heap.size + 1) (lawA (some ⟨b2, 0, none⟩) (some ⟨g2, 0, none⟩) (some ⟨c2, 0, none⟩)) rfl rfl _ _ Z.out.2.1 rlawInfo rfl (lawA_ones _ _ _) ?_))
  refine name_world (fun w8 hw8 => ?_)
  have hZ := Z.out.2.2
  rw [← hw8] at hZ
  obtain ⟨z1, z2, z3⟩ := hZ
  have h34 := below_of_P (Below.refl _ w3) (fun k hk => hk) h4.tn
  have h38 := nxt h34 z3
  have h8 := six_boxed h4 z3 z2.lt
  have hT8 : TP (fun k => k < w3.heap.size ∨ k = w4.heap.size ∨ k = w4.heap.size + 1) w8 := tp_mk (HT.out _ hA3.bw) h38 (fun k hk => .inl hk)
  obtain ⟨G, hG⟩ : ∃ G, G = w4.heap.size := ⟨_, rfl⟩
  rw [← hG] at h8 hT8 z1 ⊢
  obtain ⟨P, hP⟩ : ∃ P : Nat → Prop, P = fun k => k < w3.heap.size ∨ k = G ∨ k = G + 1 := ⟨_, rfl⟩
  rw [← hP] at h8 hT8
  have pG : P G := by rw [hP]; exact .inr (.inl rfl)
  have pw : ∀ k, k < w3.heap.size → P k := fun k hk => by rw [hP]; exact .inl hk
  have hM8 : MtAt w x y a b c d G (lawA (some ⟨b1, 0, none⟩) (some ⟨g1, 0, none⟩) (some ⟨c1, 0, none⟩)) w8 := ⟨hA3.below h38, z1⟩
  have o3 := hA3.bd.lt
  have HM := Lib.hid (fun (W : World) (R R2 : Regs) (N N2 : List Int) (B : Nat) (s : Six w8 P b1 g1 c1 b2 g2 c2 R R2 N N2 B W) => mt_six hM8 HI.out o3 pw pG s)
  have HT8 := Lib.hid hT8
  obtain ⟨L, hL⟩ : ∃ L, L = lawA (some ⟨b1, 0, none⟩) (some ⟨g1, 0, none⟩) (some ⟨c1, 0, none⟩) := ⟨_, rfl⟩
  have HLL := Lib.hid hL
  have hLs : (Tryz.prog.info? 39).map (·.size) = some L.size := by rw [hL]; exact lawInfo
  have HLS := Lib.hid hLs
  have hL1 : L[1]? = some (.pointer (some ⟨g1, 0, none⟩)) := by rw [hL]; rfl
  have hL0 : L[0]? = some (.pointer (some ⟨b1, 0, none⟩)) := by rw [hL]; rfl
  have HLC := Lib.hid (And.intro hL0 hL1)
  rw [← hL] at HM hM8
  have hR := regs_wf HR.out.1 HR.out.2.2
  have hCA := fun (W : World) (R R2 : Regs) (N N2 : List Int) (B : Nat) (s : Six w8 P b1 g1 c1 b2 g2 c2 R R2 N N2 B W) (hw : R.wf) (hB : B ≤ 1000000) => six_cert s HT8.out hw hB c HX.out.2.2.1
  have hCB := fun (W : World) (R R2 : Regs) (N N2 : List Int) (B : Nat) (s : Six w8 P b1 g1 c1 b2 g2 c2 R R2 N N2 B W) (hw : R.wf) (hB : B ≤ 1000000) => six_cert s HT8.out hw hB d HX.out.2.2.2
  rw [← hL] at hCA hCB
  have HCA := Lib.hid hCA
  have HCB := Lib.hid hCB
  have hAd := hM8.below (Below.refl _ w8).drew
  have hSd := h8.below (Below.refl _ w8).drew
  have hbw8 := hM8.ms.bw
  clear hw8 z1 z2 z3 Z HL h4 h34 h38 h8 hT8 hP hG hM8 o3 hA3 hL hLs hL0 hL1 hCA hCB pG pw
  go_upto_region 8 with fail
  obtain ⟨wd, hwd⟩ : ∃ wd, wd = w8.drew := ⟨_, rfl⟩
  rw [← hwd] at hAd hSd
  have hca := HCA.out _ _ _ _ _ _ hSd hR (by decide)
  obtain ⟨ec, hec⟩ : ∃ q, q = certE (regsV x) c := ⟨_, rfl⟩
  obtain ⟨ed, hed⟩ : ∃ q, q = certE (regsV x) d := ⟨_, rfl⟩
  rw [← hec] at hca
  have HE := Lib.hid (And.intro hec hed)
  clear hec hed
  refine wp_region_K (MtAt w x y a b c d G L) [0, 1, 3, 4] (by kernel_rfl) ?_
  rw [← hwd]
  clear hwd
  refine wpK_quiet (f := 4) (by kernel_rfl) (fun _ x _ _ _ h => by cases x <;> exact h) hAd [0, 1, 3, 4] _ _ (by kernel_rfl) (by kernel_rfl) (by kernel_rfl) ?_
  have ne : Nonempty (WorldIn (MtAt w x y a b c d G L)) := ⟨⟨_, hAd⟩⟩
  conv => arg 5; simp [pick]
  refine wpQuiet_row rfl _ _ rfl G rfl _ _ _ _ (fun y => y.h.kl) Tryz.underlying39 rfl HLS.out ?_
  conv => arg 6; simp only [Act.put, List.setIfInBounds_toArray, List.set_cons_zero, List.set_cons_succ]
  refine wpQuiet_row rfl _ _ rfl (w.heap.size + 2) rfl _ _ _ _ (fun y => y.h.ms.bc) Tryz.underlying29 rfl L11.crtInfo ?_
  conv => arg 6; simp only [Act.put, List.setIfInBounds_toArray, List.set_cons_zero, List.set_cons_succ]
  refine wpQuiet_row rfl _ _ rfl G rfl _ _ _ _ (fun y => y.h.kl) Tryz.underlying39 rfl HLS.out ?_
  conv => arg 6; simp only [Act.put, List.setIfInBounds_toArray, List.set_cons_zero, List.set_cons_succ]
  refine wpQuiet_row rfl _ _ rfl (w.heap.size + 3) rfl _ _ _ _ (fun y => y.h.ms.bd) Tryz.underlying29 rfl L11.crtInfo ?_
  conv => arg 6; simp only [Act.put, List.setIfInBounds_toArray, List.set_cons_zero, List.set_cons_succ]
  refine wpQuiet_nil ?_
  clear ne
  refine wpK_step 2 (by kernel_rfl) rfl ?_
  go_wp2_with (go_at_call 11; refine hca.mono ?_; rintro e w9 ⟨rfl, h9⟩)
  refine stepQ.mk ⟨fun _ => HM.out _ _ _ _ _ _ h9, ?_⟩
  have hcb := HCB.out _ _ _ _ _ _ h9 hR (by decide)
  rw [← HE.out.2] at hcb
  clear hca hAd hSd h9
  refine wpK_step 5 (by kernel_rfl) rfl ?_
  go_wp2_with (go_at_call 11; refine hcb.mono ?_; rintro e w10 ⟨rfl, h10⟩)
  refine stepQ.mk ⟨fun _ => HM.out _ _ _ _ _ _ h10, ?_⟩
  clear hcb
  refine wpK_step 6 (by kernel_rfl) rfl ?_
  go_wp2_with fail
  refine stepQ.mk ⟨fun _ => HM.out _ _ _ _ _ _ h10, ?_⟩
  refine wpK_seq [7] _ _ _ (by kernel_rfl) ?_
  conv => arg 4; simp [pick]
  obtain ⟨N1, hN1⟩ : ∃ N, N = certN (regsV x) (certN (regsV x) [] c) d := ⟨_, rfl⟩
  rw [← hN1] at h10
  obtain ⟨KX, hKX⟩ : ∃ K, K = (regsV x).K := ⟨_, rfl⟩
  obtain ⟨LX, hLX⟩ : ∃ K, K = (regsV x).L := ⟨_, rfl⟩
  obtain ⟨GX, hGX⟩ : ∃ K, K = (regsV x).G := ⟨_, rfl⟩
  have h10' : Six w8 P b1 g1 c1 b2 g2 c2 ⟨KX, x.f, x.bad, LX, GX⟩ (regsV x) N1 [] 22 w10 := by rw [hKX, hLX, hGX]; exact h10
  obtain ⟨n3, hn3⟩ : ∃ n, n = y.ss.length := ⟨_, rfl⟩
  obtain ⟨n2, hn2⟩ : ∃ n, n = y.cs.length := ⟨_, rfl⟩
  have hm3 : n3 ≤ 120 := by rw [hn3]; exact HR.out.2.1.n3
  have hm2 : n2 ≤ 10 := by rw [hn2]; exact HR.out.2.1.n2
  have hgl := fun k j => grown_lens HR.out.1 HR.out.2.2 (y.ss.take k) (y.cs.take j) (fun s hs => HR.out.2.1.ss s (List.mem_of_mem_take hs)) (by have := HR.out.2.1.n3; rw [List.length_take]; omega) (by have := HR.out.2.1.n2; rw [List.length_take]; omega)
  have hgl' : ∀ k j, (bookC KX (y.cs.take j)).length ≤ 1000 ∧ (shsF x.f LX (y.ss.take k)).length ≤ 1000 := fun k j => by rw [hKX, hLX]; exact hgl k j
  have HGL := Lib.hid hgl'
  have HK := Lib.hid (And.intro hKX (And.intro hLX (And.intro hGX (And.intro hn3 hn2))))
  clear hN1 hKX hLX hGX hn3 hn2 hgl hgl' h10 hR
  go_wp2
  go_loopw [14] (fun i wr => ∃ k : Nat, i = .int .i64 k ∧ k ≤ n3 ∧ Six w8 P b1 g1 c1 b2 g2 c2 ⟨KX, x.f, x.bad, shsF x.f LX (y.ss.take k), GX⟩ (regsV x) N1 [] 22 wr) (fun i _ => n3 - (RowKit.intOf i).toNat)
  case atStart => exact ⟨0, rfl, Nat.zero_le _, h10'⟩
  case round =>
    obtain ⟨k, rfl, hk, hSk⟩ := hrel
    clear h10'
    have hA := HM.out _ _ _ _ _ _ hSk
    have i4 : wr.cell? ⟨w.heap.size + 1, 4, none⟩ = some (.slice b.A3 n3 b.c3) := by rw [HK.out.2.2.2.1]; exact hA.ms.bj.cell 4
    by_cases hlt : k < n3
    · have hkL : k < y.ss.length := by have := HK.out.2.2.2.1; omega
      obtain ⟨ad, hA1, hadl, hxx⟩ := hA.ms.hy.r3 k hkL
      clear hxx
      rw [hA1] at i4
      have hsn : shsF x.f LX (y.ss.take (k + 1)) = issL x.f (shsF x.f LX (y.ss.take k)) y.ss[k] := by rw [← shsF_snoc, List.take_succ_eq_append_getElem hkL]
      have hlen : (shsF x.f LX (y.ss.take k)).length ≤ 1000000 := by have := (HGL.out k 0).2; omega
      have HCS := Lib.hid (fun W (h : MtAt w x y a b c d G L W) => mt_share h hA1 hkL)
      have hyw := HR.out.2.1.ss _ (List.getElem_mem hkL)
      obtain ⟨M, hM⟩ : ∃ M, M = shsF x.f LX (y.ss.take k) := ⟨_, rfl⟩
      rw [← hM] at hSk hsn hlen
      obtain ⟨s, hs⟩ : ∃ s, s = y.ss[k] := ⟨_, rfl⟩
      rw [← hs] at hsn HCS hyw
      have HSN := Lib.hid hsn
      have hAd := hA.below (Below.refl _ wr).drew
      have hSd := hSk.below (Below.refl _ wr).drew
      clear hsn hM hs hadl hkL hA hSk
      go_upto_region 12 with fail
      clear i4
      obtain ⟨wd, hwd⟩ : ∃ wd, wd = wr.drew := ⟨_, rfl⟩
      rw [← hwd] at hAd hSd
      refine wp_region_K (MtAt w x y a b c d G L) [0, 1, 2, 3, 4, 5, 6] (by kernel_rfl) ?_
      rw [← hwd]
      clear hwd
      refine wpK_quiet (f := 1) (by kernel_rfl) (fun _ x _ _ _ h => by cases x <;> exact h) hAd [0, 1, 2, 3, 4, 5, 6] _ _ (by kernel_rfl) (by kernel_rfl) (by kernel_rfl) ?_
      have ne : Nonempty (WorldIn (MtAt w x y a b c d G L)) := ⟨⟨_, hAd⟩⟩
      have d0 : ∀ z : WorldIn (MtAt w x y a b c d G L), z.w.cell? ⟨G, 1, none⟩ = some (.pointer (some ⟨g1, 0, none⟩)) := fun z => (z.h.kl.cell 1).trans HLC.out.2
      have d1 : ∀ z : WorldIn (MtAt w x y a b c d G L), z.w.cell? ⟨w.heap.size + 1, 4, none⟩ = some (.slice (some ad) n3 b.c3) := fun z => by rw [HK.out.2.2.2.1, ← hA1]; exact z.h.ms.bj.cell 4
      conv => arg 5; simp [pick]
      iterate 6 go_big_quiet_step (fail)
      refine wpQuiet_cells rfl _ _ rfl (ad.add (k * 11)) rfl (shrL s) _ (fun z => HCS.out z.w z.h) Tryz.underlying75 rfl (by kernel_rfl) ?_
      conv => arg 6; simp only [Act.put, List.setIfInBounds_toArray, List.set_cons_zero, List.set_cons_succ]
      refine wpQuiet_nil ?_
      have hE : Calls Tryz.prog 29 #[.pointer (some ⟨g1, 0, none⟩), .agg (shrL s).toArray] wd _ := six_issue hSd hlen s hyw
      clear ne d0 d1 hSd hAd
      refine wpK_step 7 (by kernel_rfl) rfl ?_
      go_wp2_with (go_at_call 29; refine hE.mono ?_; rintro e w11 ⟨⟨v11, rfl⟩, hS11⟩)
      refine stepQ.mk ⟨fun _ => HM.out _ _ _ _ _ _ hS11, ?_⟩
      refine wpK_seq [] _ _ _ (by kernel_rfl) ?_
      conv => arg 4; simp [pick]
      clear hE HCS
      go_wp2_with fail
      go_roundw
      case rel => exact ⟨k + 1, by go_num, by omega, by rw [HSN.out]; exact hS11⟩
      case measure => simp [RowKit.intOf]; omega
    · obtain rfl : k = n3 := by omega
      have hfull : y.ss.take k = y.ss := List.take_of_length_le (by have := HK.out.2.2.2.1; omega)
      rw [hfull] at hSk
      obtain ⟨LY, eLY⟩ : ∃ K, K = shsF x.f LX y.ss := ⟨_, rfl⟩
      rw [← eLY] at hSk
      have HLY := Lib.hid eLY
      clear hA hfull eLY
      go_wp2
      clear i4
      go_loopw [15] (fun i wr => ∃ k : Nat, i = .int .i64 k ∧ k ≤ n2 ∧ Six w8 P b1 g1 c1 b2 g2 c2 ⟨bookC KX (y.cs.take k), x.f, x.bad, LY, GX⟩ (regsV x) N1 [] 22 wr) (fun i _ => n2 - (RowKit.intOf i).toNat)
      case atStart => exact ⟨0, rfl, Nat.zero_le _, hSk⟩
      case round =>
        obtain ⟨k, rfl, hk, hSk⟩ := hrel
        have hA := HM.out _ _ _ _ _ _ hSk
        have i3 : wr.cell? ⟨w.heap.size + 1, 3, none⟩ = some (.slice b.A2 n2 b.c2) := by rw [HK.out.2.2.2.2]; exact hA.ms.bj.cell 3
        by_cases hlt : k < n2
        · have hkL : k < y.cs.length := by have := HK.out.2.2.2.2; omega
          obtain ⟨ad, hA1, hadl, hxx⟩ := hA.ms.hy.r2 k hkL
          clear hxx
          rw [hA1] at i3
          have hsn : bookC KX (y.cs.take (k + 1)) = enterL (bookC KX (y.cs.take k)) (str y.cs[k]) := by rw [← bookC_snoc, List.take_succ_eq_append_getElem hkL]
          have hlen : (bookC KX (y.cs.take k)).length ≤ 1000000 := by have := (HGL.out 0 k).1; omega
          have HCS := Lib.hid (fun W (h : MtAt w x y a b c d G L W) => mt_text h hA1 hkL)
          obtain ⟨M, hM⟩ : ∃ M, M = bookC KX (y.cs.take k) := ⟨_, rfl⟩
          rw [← hM] at hSk hsn hlen
          obtain ⟨s, hs⟩ : ∃ s, s = str y.cs[k] := ⟨_, rfl⟩
          rw [← hs] at hsn HCS
          have HSN := Lib.hid hsn
          have hAd := hA.below (Below.refl _ wr).drew
          have hSd := hSk.below (Below.refl _ wr).drew
          clear hsn hM hs hadl hkL hA hSk
          go_upto_region 16 with fail
          clear i3
          obtain ⟨wd, hwd⟩ : ∃ wd, wd = wr.drew := ⟨_, rfl⟩
          rw [← hwd] at hAd hSd
          refine wp_region_K (MtAt w x y a b c d G L) [0, 1, 2, 3, 4, 5, 6] (by kernel_rfl) ?_
          rw [← hwd]
          clear hwd
          refine wpK_quiet (f := 1) (by kernel_rfl) (fun _ x _ _ _ h => by cases x <;> exact h) hAd [0, 1, 2, 3, 4, 5, 6] _ _ (by kernel_rfl) (by kernel_rfl) (by kernel_rfl) ?_
          have ne : Nonempty (WorldIn (MtAt w x y a b c d G L)) := ⟨⟨_, hAd⟩⟩
          have d0 : ∀ z : WorldIn (MtAt w x y a b c d G L), z.w.cell? ⟨G, 0, none⟩ = some (.pointer (some ⟨b1, 0, none⟩)) := fun z => (z.h.kl.cell 0).trans HLC.out.1
          have d1 : ∀ z : WorldIn (MtAt w x y a b c d G L), z.w.cell? ⟨w.heap.size + 1, 3, none⟩ = some (.slice (some ad) n2 b.c2) := fun z => by rw [HK.out.2.2.2.2, ← hA1]; exact z.h.ms.bj.cell 3
          have d2 : ∀ z : WorldIn (MtAt w x y a b c d G L), z.w.cell? (ad.add k) = some (.string s) := fun z => HCS.out z.w z.h
          conv => arg 5; simp [pick]
          iterate 7 go_big_quiet_step (fail)
          refine wpQuiet_nil ?_
          have hE := six_enter hSd hlen s
          clear ne d0 d1 d2 hSd hAd
          refine wpK_step 7 (by kernel_rfl) rfl ?_
          go_wp2_with (go_at_call 30; refine hE.mono ?_; rintro e w11 ⟨⟨v11, rfl⟩, hS11⟩)
          refine stepQ.mk ⟨fun _ => HM.out _ _ _ _ _ _ hS11, ?_⟩
          refine wpK_seq [] _ _ _ (by kernel_rfl) ?_
          conv => arg 4; simp [pick]
          clear hE HCS
          go_wp2_with fail
          go_roundw
          case rel => exact ⟨k + 1, by go_num, by omega, by rw [HSN.out]; exact hS11⟩
          case measure => simp [RowKit.intOf]; omega
        · obtain rfl : k = n2 := by omega
          have hfull : y.cs.take k = y.cs := List.take_of_length_le (by have := HK.out.2.2.2.2; omega)
          rw [hfull] at hSk
          obtain ⟨RG, hRG⟩ : ∃ R, R = grownV (regsV x) y.ss y.cs := ⟨_, rfl⟩
          have e1 : (⟨bookC KX y.cs, x.f, x.bad, LY, GX⟩ : Regs) = RG := by rw [hRG, HLY.out, HK.out.1, HK.out.2.1, HK.out.2.2.1]; rfl
          rw [e1] at hSk
          have hRw : RG.wf := by rw [hRG]; exact grown_wf HR.out.1 HR.out.2.2 HR.out.2.1.ss HR.out.2.1.n3 HR.out.2.1.n2
          have HRG := Lib.hid (And.intro hRG hRw)
          have hEC : ec = 0 → certE RG c = 0 := fun h => by rw [hRG]; exact grown_stays _ _ (by rw [← HE.out.1]; exact h)
          have hED : ed = 0 → certE RG d = 0 := fun h => by rw [hRG]; exact grown_stays _ _ (by rw [← HE.out.2]; exact h)
          have HEE := Lib.hid (And.intro hEC hED)
          clear hfull e1 hRG hRw hEC hED
          go_upto_region 17 with fail
          clear i3
          by_cases hc0 : ec = 0
          case neg =>
            have q1 : (ec == 0) = false := by simpa using hc0
            have q2 : (ec != 0) = true := by simpa using hc0
            by_cases hd0 : ed = 0
            · have q3 : (ed == 0) = true := by simpa using hd0
              have hcb := HCB.out _ _ _ _ _ _ hSk HRG.out.2 (by decide)
              rw [HEE.out.2 hd0] at hcb
              clear hSk hc0 hd0 HEE
              go_wp2_with (first
                | (refine wpList_row_at rfl _ _ rfl G rfl _ _ _ _ hA.kl Tryz.underlying39 rfl HLS.out ?_)
                | (refine wpList_row_at rfl _ _ rfl (w.heap.size + 3) rfl _ _ _ _ hA.ms.bd Tryz.underlying29 rfl L11.crtInfo ?_)
                | (go_at_call 11; refine hcb.mono ?_; rintro e w12 ⟨rfl, h12⟩))
              go_ret
              exact ⟨rfl, (HM.out _ _ _ _ _ _ h12).ms.bw⟩
            · have q3 : (ed == 0) = false := by simpa using hd0
              clear hSk hc0 hd0 HEE
              go_wp2_with fail
              go_ret
              exact ⟨rfl, hA.ms.bw⟩
          subst hc0
          have hca := HCA.out _ _ _ _ _ _ hSk HRG.out.2 (by decide)
          rw [HEE.out.1 rfl] at hca
          by_cases hd0 : ed = 0
          case neg =>
            have q3 : (ed == 0) = false := by simpa using hd0
            have q2 : (ed != 0) = true := by simpa using hd0
            clear hSk hd0 HEE
            go_wp2_with (first
              | (refine wpList_row_at rfl _ _ rfl G rfl _ _ _ _ hA.kl Tryz.underlying39 rfl HLS.out ?_)
              | (refine wpList_row_at rfl _ _ rfl (w.heap.size + 2) rfl _ _ _ _ hA.ms.bc Tryz.underlying29 rfl L11.crtInfo ?_)
              | (go_at_call 11; refine hca.mono ?_; rintro e w12 ⟨rfl, h12⟩))
            go_ret
            exact ⟨rfl, (HM.out _ _ _ _ _ _ h12).ms.bw⟩
          subst hd0
          have HZ := Lib.hid (And.intro (HEE.out.1 rfl) (HEE.out.2 rfl))
          have HCD := Lib.hid (fun W N (s : Six w8 P b1 g1 c1 b2 g2 c2 RG (regsV x) N [] 23 W) => (by have h := HCB.out _ _ _ _ _ _ s HRG.out.2 (by decide); rw [HEE.out.2 rfl] at h; exact h : Calls Tryz.prog 11 #[.agg L, .agg (crtC d)] W fun e W' => e = .returned (.int .i64 0) ∧ Six w8 P b1 g1 c1 b2 g2 c2 RG (regsV x) (certN RG N d) [] 24 W'))
          clear hSk
          go_upto_region 19 with (first
            | (refine wpList_row_at rfl _ _ rfl G rfl _ _ _ _ hA.kl Tryz.underlying39 rfl HLS.out ?_)
            | (refine wpList_row_at rfl _ _ rfl (w.heap.size + 2) rfl _ _ _ _ hA.ms.bc Tryz.underlying29 rfl L11.crtInfo ?_)
            | (go_at_call 11; refine hca.mono ?_; rintro e w12 ⟨rfl, h12⟩
               have hA12 := HM.out _ _ _ _ _ _ h12
               have hcd := HCD.out _ _ h12
               clear hca hA)
            | (refine wpList_row_at rfl _ _ rfl G rfl _ _ _ _ hA12.kl Tryz.underlying39 rfl HLS.out ?_)
            | (refine wpList_row_at rfl _ _ rfl (w.heap.size + 3) rfl _ _ _ _ hA12.ms.bd Tryz.underlying29 rfl L11.crtInfo ?_)
            | (go_at_call 11; refine hcd.mono ?_; rintro e w13 ⟨rfl, h13⟩))
          have hA := HM.out _ _ _ _ _ _ h13
          clear hA12 hcd h12
          obtain ⟨N3, hN3⟩ : ∃ N, N = certN RG (certN RG N1 c) d := ⟨_, rfl⟩
          rw [← hN3] at h13
          clear hN3
          have c0 : w13.cell? ⟨w.heap.size + 2, 0, none⟩ = some (.int .i64 c.kind) := hA.ms.bc.cell 0
          have c1 : w13.cell? ⟨w.heap.size + 3, 0, none⟩ = some (.int .i64 d.kind) := hA.ms.bd.cell 0
          by_cases hk0 : c.kind = 0
          · have q1 : (c.kind == 0) = true := by simpa using hk0
            clear hk0
            go_wp2_with fail
            go_ret
            exact ⟨rfl, hA.ms.bw⟩
          have q1 : (c.kind == 0) = false := by simpa using hk0
          by_cases hk1 : d.kind = 0
          · have q2 : (d.kind == 0) = true := by simpa using hk1
            clear hk0 hk1
            go_wp2_with fail
            go_ret
            exact ⟨rfl, hA.ms.bw⟩
          have q2 : (d.kind == 0) = false := by simpa using hk1
          have HK2 := Lib.hid (And.intro hk0 hk1)
          clear hk0 hk1
          go_upto_region 21 with fail
          clear c0 c1 q1 q2
          have c0 : w13.cell? ⟨w.heap.size + 2, 6, none⟩ = some (.int .u32 c.sg) := hA.ms.bc.cell 6
          have c1 : w13.cell? ⟨w.heap.size + 3, 6, none⟩ = some (.int .u32 d.sg) := hA.ms.bd.cell 6
          have c2' : w13.cell? ⟨w.heap.size, 1, none⟩ = some (.int .u32 x.bad) := hA.ms.bi.cell 1
          have c3 : w13.cell? ⟨w.heap.size, 0, none⟩ = some (.int .i64 x.f) := hA.ms.bi.cell 0
          have lc : c.sg < 4294967296 := HX.out.2.2.1.2.2.2.2.2.2.1
          have ld : d.sg < 4294967296 := HX.out.2.2.2.2.2.2.2.2.2.1
          have lb : x.bad < 4294967296 := HR.out.1.bad
          have e1 := u32_and_nat c.sg d.sg lc ld
          have lz : c.sg &&& d.sg < 4294967296 := Nat.lt_of_le_of_lt Nat.and_le_left lc
          have e2 := u32_andNot_nat (c.sg &&& d.sg) x.bad lz lb
          have e3 := u32_andNot_nat c.sg x.bad lc lb
          obtain ⟨zb, hzb⟩ : ∃ z, z = c.sg &&& d.sg := ⟨_, rfl⟩
          rw [← hzb] at e1 e2 lz
          obtain ⟨z2, hz2⟩ : ∃ z, z = zb &&& (4294967295 - x.bad) := ⟨_, rfl⟩
          rw [← hz2] at e2
          obtain ⟨z1, hz1⟩ : ∃ z, z = c.sg &&& (4294967295 - x.bad) := ⟨_, rfl⟩
          rw [← hz1] at e3
          have l2 : z2 < 4294967296 := by rw [hz2]; exact Nat.lt_of_le_of_lt Nat.and_le_left lz
          have l1 : z1 < 4294967296 := by rw [hz1]; exact Nat.lt_of_le_of_lt Nat.and_le_left lc
          have v1 := valid_counts HK2.out.1 HZ.out.1
          have v2 := valid_counts HK2.out.2 HZ.out.2
          have hRf : RG.f = x.f := by rw [HRG.out.1]; rfl
          have hm := meet_one (f := x.f) (a := c.sg) (b := d.sg) (bad := x.bad) (newE_f HR.out.2.2) (by rw [← hRf]; exact v1.1) (by rw [← hRf]; exact v2.1) (by rw [← hRf]; exact v1.2.2) (by rw [← hRf]; exact v2.2.2) (by omega) (new_bad HR.out.2.2)
          have hmz : more 1 x.f ≤ (cnt z1 : Int) ∧ 1 ≤ cnt z2 := by rw [hz1, hz2, hzb]; exact hm
          have hmem : ∀ k ∈ bts 0 z2, k ∈ bts 0 c.sg ∧ k ∈ bts 0 d.sg := fun k hk => both_mem (bad := x.bad) (by rw [hz2, hzb] at hk; exact hk)
          have hcn : ∀ k ∈ bts 0 z2, L7.cntE RG.f RG.bad RG.L (shrOf k (stmV c)) = 0 ∧ L7.cntE RG.f RG.bad RG.L (shrOf k (stmV d)) = 0 := fun k hk => ⟨v1.2.1 k (hmem k hk).1, v2.2.1 k (hmem k hk).2⟩
          have hb32 : ∀ k ∈ bts 0 z2, k < 32 := fun k hk => L4.bts_lt (k := 32) l2 hk
          have hcnt1 := fun W => L4.count_any z1 W l1
          have hcnt2 := fun W => L4.count_any z2 W l2
          have hsome := fun W => L4.some_any x.f W
          obtain ⟨n1, hn1⟩ : ∃ n, n = cnt z1 := ⟨_, rfl⟩
          obtain ⟨n4, hn4⟩ : ∃ n, n = cnt z2 := ⟨_, rfl⟩
          obtain ⟨m1, hm1⟩ : ∃ n, n = more 1 x.f := ⟨_, rfl⟩
          rw [← hn1, ← hm1, ← hn4] at hmz
          rw [← hn1] at hcnt1
          rw [← hn4] at hcnt2
          rw [← hm1] at hsome
          have g1' : ¬ (n1 : Int) < m1 := by omega
          have g2' : ¬ (n4 : Int) < 1 := by omega
          have HCC := Lib.hid (And.intro hcnt1 (And.intro hcnt2 hsome))
          have HCN := Lib.hid (And.intro hcn (And.intro hb32 l2))
          clear hzb hz2 hz1 v1 v2 hRf hm hmz hmem hcn hb32 hcnt1 hcnt2 hsome hn1 hn4 hm1 HEE l1 l2
          go_upto_region 22 with fail
          clear e1 e2 c1
          have hAq := hA
          go_quiet ((first
            | (go_at_call 32; exact quiet_left (HCC.out.2.2 _))
            | (go_at_call 31; (first | (with_reducible exact quiet_left (HCC.out.1 _)) | (with_reducible exact quiet_left (HCC.out.2.1 _))))))
          go_upto_region 24 with fail
          clear c0 c2' c3 e3 hAq g1' g2'
          refine name_world (fun w14 hw14 => ?_)
          have hb14 : Below w13.heap.size w13 w14 := by rw [hw14]; exact drewN_bl (Below.refl _ _) _
          have hA14 := hA.below hb14
          have h14 := h13.below hb14
          have hlist := L4.list_any z2 w14 HCN.out.2.2 (HT.out _ hA14.ms.bw).2
          clear hw14 hb14 hA h13 HCC
          go_wp2_with (first
            | (go_at_call 33; refine hlist.mono ?_; rintro e w15 ⟨v15, rfl, ho⟩
               obtain ⟨A5, n5, rfl, hr5, hc5⟩ := ho.form))
          have hb15 := ho.below
          have hN15 : NqAt w w8 w15 x y a b c d P G b1 g1 c1 b2 g2 c2 L RG (regsV x) N3 [] 24 w15 := ⟨h14.below hb15, hA14.below hb15, Below.refl _ _⟩
          obtain ⟨Lz, hLz⟩ : ∃ l, l = bts 0 z2 := ⟨_, rfl⟩
          have hl32 : Lz.length ≤ 32 := by rw [hLz]; exact L4.bts_len HCN.out.2.2
          rw [← hLz] at hr5 HCN hc5
          rw [← hLz]
          clear hlist ho hb15 hLz hA14 h14
          have HN15 := Lib.hid hN15
          have hbw15 := hN15.mt.ms.bw
          have HS1 := Lib.hid (fun W => L11.stmt_any c W)
          have HS2 := Lib.hid (fun W => L11.stmt_any d W)
          have HB1 := fun (kn : Nat) W => build_shrS (kn : Int) (stmV c) W
          have HB2 := fun (kn : Nat) W => build_shrS (kn : Int) (stmV d) W
          obtain ⟨mc, hmc⟩ : ∃ m, m = stmC (stmV c) := ⟨_, rfl⟩
          obtain ⟨md, hmd⟩ : ∃ m, m = stmC (stmV d) := ⟨_, rfl⟩
          simp only [← hmc] at HS1 HB1
          simp only [← hmd] at HS2 HB2
          have HBB := Lib.hid (And.intro HB1 HB2)
          clear hN15 hmc hmd HB1 HB2
          go_loopw [131] (fun i wr => ∃ k : Nat, i = .int .i64 k ∧ k ≤ Lz.length ∧ Below w15.heap.size w15 wr) (fun i _ => Lz.length - (RowKit.intOf i).toNat)
          case atStart => exact ⟨0, rfl, Nat.zero_le _, Below.refl _ _⟩
          case round =>
            obtain ⟨k, rfl, hk, hbr⟩ := hrel
            by_cases hlt : k < Lz.length
            · obtain ⟨ad, u, rfl, _, hx, hc⟩ := (hr5.below hbr).at_ hlt
              obtain rfl := L4.natCell_at hlt hx
              obtain ⟨kn, hkn⟩ : ∃ m, m = Lz[k] := ⟨_, rfl⟩
              have hmem : kn ∈ Lz := by rw [hkn]; exact List.getElem_mem hlt
              rw [← hkn] at hc
              obtain ⟨sc, hsc⟩ : ∃ m, m = shrC (shrOf kn (stmV c)) := ⟨_, rfl⟩
              obtain ⟨sd, hsd⟩ : ∃ m, m = shrC (shrOf kn (stmV d)) := ⟨_, rfl⟩
              have hbc := HBB.out.1 kn
              have hbd := HBB.out.2 kn
              rw [← hsc] at hbc
              rw [← hsd] at hbd
              have hki : L7.inI (kn : Int) := by have := HCN.out.2.1 kn hmem; unfold L7.inI; omega
              have HC1 := Lib.hid (fun W (h : NqAt w w8 w15 x y a b c d P G b1 g1 c1 b2 g2 c2 L RG (regsV x) N3 [] 24 W) => (by
                have h2 := six_counts' h.six HRG.out.2 (shrOf kn (stmV c)) ⟨hki, L11.stmV_wf HX.out.2.2.1⟩
                rw [(HCN.out.1 kn hmem).1, ← hsc] at h2
                exact h2 : Calls Tryz.prog 34 #[.pointer (some ⟨g1, 0, none⟩), .agg sc] W (gives (.int .i64 0) W)))
              have HC2 := Lib.hid (fun W (h : NqAt w w8 w15 x y a b c d P G b1 g1 c1 b2 g2 c2 L RG (regsV x) N3 [] 24 W) => (by
                have h2 := six_counts' h.six HRG.out.2 (shrOf kn (stmV d)) ⟨hki, L11.stmV_wf HX.out.2.2.2⟩
                rw [(HCN.out.1 kn hmem).2, ← hsd] at h2
                exact h2 : Calls Tryz.prog 34 #[.pointer (some ⟨g1, 0, none⟩), .agg sd] W (gives (.int .i64 0) W)))
              have hS : NqAt w w8 w15 x y a b c d P G b1 g1 c1 b2 g2 c2 L RG (regsV x) N3 [] 24 wr := ⟨HN15.out.six.below hbr, HN15.out.mt.below hbr, hbr⟩
              have hSd := hS.below (Below.refl _ wr).drew
              clear hx hkn hsc hsd hki hmem hS
              go_upto_region 27 with fail
              have ne : Nonempty (WorldIn (NqAt w w8 w15 x y a b c d P G b1 g1 c1 b2 g2 c2 L RG (regsV x) N3 [] 24)) := ⟨⟨_, hSd⟩⟩
              have d0 : ∀ z : WorldIn (NqAt w w8 w15 x y a b c d P G b1 g1 c1 b2 g2 c2 L RG (regsV x) N3 [] 24), z.w.cell? ⟨G, 1, none⟩ = some (.pointer (some ⟨g1, 0, none⟩)) := fun z => (z.h.mt.kl.cell 1).trans HLC.out.2
              refine wp_region_S (NqAt w w8 w15 x y a b c d P G b1 g1 c1 b2 g2 c2 L RG (regsV x) N3 [] 24) (by kernel_rfl) (by kernel_rfl) hSd ?_
              repeat (first
                | (refine wpQuiet_row rfl _ _ rfl (w.heap.size + 2) rfl _ _ _ _ (fun y => y.h.mt.ms.bc) Tryz.underlying29 rfl L11.crtInfo ?_
                   conv => arg 6; simp only [Act.put, List.setIfInBounds_toArray, List.set_cons_zero, List.set_cons_succ])
                | (refine wpQuiet_row rfl _ _ rfl (w.heap.size + 3) rfl _ _ _ _ (fun y => y.h.mt.ms.bd) Tryz.underlying29 rfl L11.crtInfo ?_
                   conv => arg 6; simp only [Act.put, List.setIfInBounds_toArray, List.set_cons_zero, List.set_cons_succ])
                | (refine wpQuiet_fn rfl 35 _ _ rfl Tryz.call35 [.agg (crtC c)] rfl (v := .agg mc) (fun y => (HS1.out y.w).mono fun e w' ⟨he, hb⟩ => ⟨he, y.h.below hb⟩) ?_
                   conv => arg 6; simp only [Act.put, List.setIfInBounds_toArray, List.set_cons_zero, List.set_cons_succ])
                | (refine wpQuiet_fn rfl 35 _ _ rfl Tryz.call35 [.agg (crtC d)] rfl (v := .agg md) (fun y => (HS2.out y.w).mono fun e w' ⟨he, hb⟩ => ⟨he, y.h.below hb⟩) ?_
                   conv => arg 6; simp only [Act.put, List.setIfInBounds_toArray, List.set_cons_zero, List.set_cons_succ])
                | (refine wpQuiet_build rfl _ _ rfl #[(0, .int .i64 kn), (1, .agg mc)] rfl (v := .agg sc) (fun W => hbc W) ?_
                   conv => arg 6; simp only [Act.put, List.setIfInBounds_toArray, List.set_cons_zero, List.set_cons_succ])
                | (refine wpQuiet_build rfl _ _ rfl #[(0, .int .i64 kn), (1, .agg md)] rfl (v := .agg sd) (fun W => hbd W) ?_
                   conv => arg 6; simp only [Act.put, List.setIfInBounds_toArray, List.set_cons_zero, List.set_cons_succ])
                | (refine wpQuiet_fn rfl 34 _ _ rfl Tryz.call34 [.pointer (some ⟨g1, 0, none⟩), .agg sc] rfl (v := .int .i64 0) (fun y => (HC1.out y.w y.h).mono fun e w' ⟨he, hb⟩ => ⟨he, y.h.below hb⟩) ?_
                   conv => arg 6; simp only [Act.put, List.setIfInBounds_toArray, List.set_cons_zero, List.set_cons_succ])
                | (refine wpQuiet_fn rfl 34 _ _ rfl Tryz.call34 [.pointer (some ⟨g1, 0, none⟩), .agg sd] rfl (v := .int .i64 0) (fun y => (HC2.out y.w y.h).mono fun e w' ⟨he, hb⟩ => ⟨he, y.h.below hb⟩) ?_
                   conv => arg 6; simp only [Act.put, List.setIfInBounds_toArray, List.set_cons_zero, List.set_cons_succ])
                | go_big_quiet_step (fail))
              refine wpQuiet_nil ?_
              intro z
              obtain ⟨w16, hQ⟩ := z
              dsimp only
              clear ne d0 hSd hc hbr hbc hbd
              go_wp2_with fail
              go_roundw
              case rel => exact ⟨k + 1, by go_num, by omega, hQ.bl⟩
              case measure => simp [RowKit.intOf]; omega
            · go_wp2
              go_ret
              exact ⟨rfl, nxt hbw15 hbr⟩
end Go.Proofs.YtomaaidhmccngaaGreatDoor
