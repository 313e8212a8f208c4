/-
  The walk of the law on one signer more.
-/
import Derived.Test.YtomaaidhmccngaaGreatDoorV4
import Derived.Test.YtomaaidhmccngaaGreatDoorFarV
import Derived.Test.YtomaaidhmccngaaGreatDoorMoreP
set_option linter.unusedSimpArgs false
set_option linter.unusedVariables false
set_option maxRecDepth 10000
namespace Go.Proofs.YtomaaidhmccngaaGreatDoor
open Go.RowKit Go.Maps Go.Lib
open L3 (Blk Reads)
open L6 (Turn)
open L7 (Shr shrC shrL)
open L11 (Crt crtC mayV stmC stmV wpQuiet_fn)

structure MrAt (w : World) (x : InV) (a : InA) (c : Crt) (W : World) : Prop where
  bi : Blk W w.heap.size 27 (inC x a)
  bx : Blk W (w.heap.size + 1) 29 (crtC c)
  hin : InAt x a W
  bw : Below w.heap.size w W
theorem MrAt.below {w W W' : World} {x : InV} {a : InA} {c : Crt} (h : MrAt w x a c W) (hb : Below W.heap.size W W') : MrAt w x a c W' := ⟨h.bi.below hb h.bi.lt, h.bx.below hb h.bx.lt, h.hin.below hb, nxt h.bw hb⟩
theorem six_counts {w W : World} {P : Nat → Prop} {b g c b2 g2 c2 : Nat} {R R2 : Regs} {N N2 : List Int} {B : Nat} (h : Six w P b g c b2 g2 c2 R R2 N N2 B W) (hw : R.wf) (y : Shr) (hy : y.wf) : Calls Tryz.prog 34 #[.pointer (some ⟨g, 0, none⟩), .agg (shrC y)] W (gives (.int .i64 (L7.cntE R.f R.bad R.L y)) W) := by
  obtain ⟨⟨U, V, h1, _⟩, _, _⟩ := h
  exact trio_counts h1 hw y hy
/-- What is held while it is asked whether the share counts. -/
structure MqAt (w8 : World) (P : Nat → Prop) (b g cc b2 g2 c2 : Nat) (R : Regs) (N : List Int) (G gx gm : Nat) (c m : Crt) (W : World) : Prop where
  six : Six w8 P b g cc b2 g2 c2 R R N [] 21 W
  kl : Blk W G 39 (lawA (some ⟨b, 0, none⟩) (some ⟨g, 0, none⟩) (some ⟨cc, 0, none⟩))
  kx : Blk W gx 29 (crtC c)
  km : Blk W gm 29 (crtC m)
theorem MqAt.below {w8 : World} {P : Nat → Prop} {b g cc b2 g2 c2 : Nat} {R : Regs} {N : List Int} {G gx gm : Nat} {c m : Crt} {W W' : World} (h : MqAt w8 P b g cc b2 g2 c2 R N G gx gm c m W) (hb : Below W.heap.size W W') : MqAt w8 P b g cc b2 g2 c2 R N G gx gm c m W' := ⟨h.six.below hb, h.kl.below hb h.kl.lt, h.kx.below hb h.kx.lt, h.km.below hb h.km.lt⟩
theorem moreC_wf {c : Crt} {k : Nat} (h : c.wf) (hk : k < 32) : (moreC c k).wf := ⟨h.1, h.2.1, h.2.2.1, h.2.2.2.1, h.2.2.2.2.1, h.2.2.2.2.2.1, L4.or_lt h.2.2.2.2.2.2.1 hk, h.2.2.2.2.2.2.2⟩
set_option maxHeartbeats 8000000 in
set_option maxRecDepth 100000 in
theorem more_walk (x : InV) (a : InA) (c : Crt) (k : Int) (w : World) (hx : x.raw) (hc : c.wf) (hk : -9223372036854775808 ≤ k ∧ k ≤ 9223372036854775807) (hin : InAt x a w) (hT : T13 w) :
    Calls Tryz.prog 7 #[.agg (inC x a), .agg (crtC c), .int .i64 k] w (gives (.bool true) w) := by
  have Z := two_boxes w 27 29 (inC x a) (crtC c)
  have N0 := Lib.hid (show MrAt w x a c _ from ⟨Z.1, Z.2.1, hin.below Z.2.2, Z.2.2⟩)
  have HT := Lib.hid (fun w' (hb : Below w.heap.size w w') => hT.kept hb)
  have HX := Lib.hid (And.intro hx hc)
  clear hin hT hx hc Z
  go_enter Tryz.func7, Tryz.ntmps7
  go_upto_region 1 with fail
  refine name_world (fun w0 hw0 => ?_)
  have hA0 : MrAt w x a c w0 := by rw [hw0]; exact N0.out
  clear hw0 N0
  have hal := aliveV_any w0 (HT.out _ hA0.bw)
  go_upto_region 3 with (first
    | (go_at_call 8; refine hal.mono ?_; unfold gives; rintro e w1 ⟨rfl, hb1⟩))
  have hA1 := hA0.below hb1
  clear hA0 hb1 hal
  have hfr := far_any x a w1 HX.out.1 hA1.hin
  rcases Bool.eq_false_or_eq_true (farV x) with hf | hf
  · rw [hf] at hfr
    clear hf
    go_wp2_with (first
      | (refine wpList_row_at rfl _ _ rfl w.heap.size rfl _ _ _ _ hA1.bi Tryz.underlying27 rfl inInfo ?_)
      | (go_at_call 9; refine hfr.mono ?_; unfold gives; rintro e w2 ⟨rfl, hb2⟩))
    go_ret
    exact ⟨rfl, nxt hA1.bw hb2⟩
  rw [hf] at hfr
  have hwf := far_small HX.out.1 hf
  clear hf
  by_cases hk0 : k < 0
  · go_wp2_with (first
      | (refine wpList_row_at rfl _ _ rfl w.heap.size rfl _ _ _ _ hA1.bi Tryz.underlying27 rfl inInfo ?_)
      | (go_at_call 9; refine hfr.mono ?_; unfold gives; rintro e w2 ⟨rfl, hb2⟩))
    go_ret
    exact ⟨rfl, nxt hA1.bw hb2⟩
  by_cases hk1 : 31 < k
  · go_wp2_with (first
      | (refine wpList_row_at rfl _ _ rfl w.heap.size rfl _ _ _ _ hA1.bi Tryz.underlying27 rfl inInfo ?_)
      | (go_at_call 9; refine hfr.mono ?_; unfold gives; rintro e w2 ⟨rfl, hb2⟩))
    go_ret
    exact ⟨rfl, nxt hA1.bw hb2⟩
  go_upto_region 5 with (first
    | (refine wpList_row_at rfl _ _ rfl w.heap.size rfl _ _ _ _ hA1.bi Tryz.underlying27 rfl inInfo ?_)
    | (go_at_call 9; refine hfr.mono ?_; unfold gives; rintro e w2 ⟨rfl, hb2⟩))
  have hA2 := hA1.below hb2
  clear hA1 hb2 hfr
  by_cases hn : L7.newE x.f x.bad = 0
  case neg =>
    have hL := laws_bad x a w2 hwf.f hwf.bad hn
    clear hn
    go_wp2_with (first
      | (refine wpList_row_at rfl _ _ rfl w.heap.size rfl _ _ _ _ hA2.bi Tryz.underlying27 rfl inInfo ?_)
      | (go_at_call 10; refine hL.mono ?_; unfold gives; rintro e w3 ⟨rfl, hb3⟩
         have Z := Lib.hid (law_boxes w3 none none none none none none))
      | (refine wpList_store_row rfl _ _ _ rfl w3.heap.size (lawA none none none) rfl rfl _ _ Z.out.1 lawInfo rfl (lawA_ones _ _ _) ?_)
      | (refine wpList_store_row rfl _ _ _ rfl (w3.heap.size + 1) (lawA none none none) rfl rfl _ _ Z.out.2.1 rlawInfo rfl (lawA_ones _ _ _) ?_))
    go_ret
    exact ⟨rfl, nxt (nxt hA2.bw hb3) Z.out.2.2.2.2⟩
  have HL := Lib.hid ((laws_ok x a w2 hwf hA2.hin (HT.out _ hA2.bw) hn).mono (R' := fun e W' => ∃ b g cc b2 g2 c2 : Nat, e = .returned (.tuple #[.agg (lawA (some ⟨b, 0, none⟩) (some ⟨g, 0, none⟩) (some ⟨cc, 0, none⟩)), .agg (lawA (some ⟨b2, 0, none⟩) (some ⟨g2, 0, none⟩) (some ⟨c2, 0, none⟩)), .bool true]) ∧ Six w2 (fun k => k < w2.heap.size) b g cc b2 g2 c2 (regsV x) (regsV x) [] [] 20 W') (by
    rintro e W' (⟨h1, _⟩ | ⟨_, h⟩)
    · exact absurd hn h1
    · exact h))
  have hR := Lib.hid (regs_wf hwf hn)
  obtain ⟨kn, rfl⟩ := Int.eq_ofNat_of_zero_le hk0
  have hkn : kn < 32 := by omega
  have HKN := Lib.hid hkn
  clear hn hk0 hk1 hkn hk hwf
  go_upto_region 6 with (first
    | (refine wpList_row_at rfl _ _ rfl w.heap.size rfl _ _ _ _ hA2.bi Tryz.underlying27 rfl inInfo ?_)
    | (go_at_call 10; refine HL.out.mono ?_; rintro e w3 ⟨b, g, cc, b2, g2, c2, rfl, h3⟩
       have Z := Lib.hid (law_boxes w3 (some ⟨b, 0, none⟩) (some ⟨g, 0, none⟩) (some ⟨cc, 0, none⟩) (some ⟨b2, 0, none⟩) (some ⟨g2, 0, none⟩) (some ⟨c2, 0, none⟩)))
    | (refine wpList_store_row rfl _ _ _ rfl w3.heap.size (lawA (some ⟨b, 0, none⟩) (some ⟨g, 0, none⟩) (some ⟨cc, 0, none⟩)) rfl rfl _ _ Z.out.1 lawInfo rfl (lawA_ones _ _ _) ?_)
    | (refine wpList_store_row rfl _ _ _ rfl (w3.heap.size + 1) (lawA (some ⟨b2, 0, none⟩) (some ⟨g2, 0, none⟩) (some ⟨c2, 0, none⟩)) rfl rfl _ _ Z.out.2.1 rlawInfo rfl (lawA_ones _ _ _) ?_))
  refine name_world (fun w8 hw8 => ?_)
  have hZ := Z.out.2.2
  rw [← hw8] at hZ
  obtain ⟨z1, z2, z3⟩ := hZ
  have h23 := below_of_P (Below.refl _ w2) (fun k hk => hk) h3.tn
  have h28 := nxt h23 z3
  have hA8 := hA2.below h28
  have h8 := six_boxed h3 z3 z2.lt
  have hT8 : TP (fun k => k < w2.heap.size ∨ k = w3.heap.size ∨ k = w3.heap.size + 1) w8 := tp_mk (HT.out _ hA2.bw) h28 (fun k hk => .inl hk)
  obtain ⟨G, hG⟩ : ∃ G, G = w3.heap.size := ⟨_, rfl⟩
  rw [← hG] at h8 hT8 z1 ⊢
  obtain ⟨P, hP⟩ : ∃ P : Nat → Prop, P = fun k => k < w2.heap.size ∨ k = G ∨ k = G + 1 := ⟨_, rfl⟩
  rw [← hP] at h8 hT8
  have g1 := hA2.bx.lt
  have pG : P G := by rw [hP]; exact .inr (.inl rfl)
  have pc : P (w.heap.size + 1) := by rw [hP]; exact .inl g1
  have pw : ∀ k, k < w.heap.size → P k := fun k hk => by rw [hP]; exact .inl (by omega)
  have hc := six_cert h8 hT8 hR.out (by decide) c HX.out.2
  have hne : ¬ w.heap.size + 1 = G := by have := h3.tn.size; omega
  have HK := Lib.hid (And.intro h8 (And.intro hT8 (And.intro pG (And.intro pc (And.intro pw (And.intro hA8 (And.intro z1 hne)))))))
  obtain ⟨q, hq⟩ : ∃ q, q = certE (regsV x) c := ⟨_, rfl⟩
  rw [← hq] at hc
  have HC := Lib.hid hc
  have kc := hA8.bx
  have kl := z1
  clear hw8 z1 z2 z3 Z HL h3 h23 h28 h8 hT8 pG pc pw hc hne hP hG g1 hA2 hA8
  by_cases hq0 : q = 0
  case neg =>
    have q1 : (q != 0) = true := by simpa using hq0
    clear hq hq0
    go_wp2_with (first
      | (refine wpList_row_at rfl _ _ rfl G rfl _ _ _ _ kl Tryz.underlying39 rfl lawInfo ?_)
      | (refine wpList_row_at rfl _ _ rfl (w.heap.size + 1) rfl _ _ _ _ kc Tryz.underlying29 rfl L11.crtInfo ?_)
      | (go_at_call 11; refine HC.out.mono ?_; rintro e w9 ⟨rfl, h9⟩))
    go_ret
    obtain ⟨h8, hT8, pG, pc, pw, hA8, z1, hne⟩ := HK.out
    exact ⟨rfl, below_of_P hA8.bw pw h9.tn⟩
  subst hq0
  by_cases hk0 : c.kind = 0
  · have MK : Hid (∀ W N, Six w8 P b g cc b2 g2 c2 (regsV x) (regsV x) N [] 21 W → W.cell? ⟨w.heap.size + 1, 0, none⟩ = some (.int .i64 0)) := Lib.hid (fun W N h9 => by
      have := (h9.tn.blk HK.out.2.2.2.2.2.1.bx (fun h => h HK.out.2.2.2.1)).cell 0
      rw [this]
      show some (Value.int .i64 c.kind) = _
      rw [hk0])
    clear hk0 hq
    go_wp2_with (first
      | (refine wpList_row_at rfl _ _ rfl G rfl _ _ _ _ kl Tryz.underlying39 rfl lawInfo ?_)
      | (refine wpList_row_at rfl _ _ rfl (w.heap.size + 1) rfl _ _ _ _ kc Tryz.underlying29 rfl L11.crtInfo ?_)
      | (go_at_call 11; refine HC.out.mono ?_; rintro e w9 ⟨rfl, h9⟩
         have c0 := MK.out _ _ h9))
    go_ret
    obtain ⟨h8, hT8, pG, pc, pw, hA8, z1, hne⟩ := HK.out
    exact ⟨rfl, below_of_P hA8.bw pw h9.tn⟩
  have MK : Hid (∀ W N, Six w8 P b g cc b2 g2 c2 (regsV x) (regsV x) N [] 21 W → W.cell? ⟨w.heap.size + 1, 0, none⟩ = some (.int .i64 c.kind)) := Lib.hid (fun W N h9 => (h9.tn.blk HK.out.2.2.2.2.2.1.bx (fun h => h HK.out.2.2.2.1)).cell 0)
  have k1 : (c.kind == 0) = false := by simpa using hk0
  have HQ := Lib.hid (And.intro hq.symm hk0)
  clear hk0 hq
  go_upto_region 8 with (first
    | (refine wpList_row_at rfl _ _ rfl G rfl _ _ _ _ kl Tryz.underlying39 rfl lawInfo ?_)
    | (refine wpList_row_at rfl _ _ rfl (w.heap.size + 1) rfl _ _ _ _ kc Tryz.underlying29 rfl L11.crtInfo ?_)
    | (go_at_call 11; refine HC.out.mono ?_; rintro e w9 ⟨rfl, h9⟩
       have c0 := MK.out _ _ h9))
  obtain ⟨h8, hT8, pG, pc, pw, hA8, z1, hne⟩ := HK.out
  have kc9 := h9.tn.blk kc (fun h => h pc)
  have kl9 := h9.tn.blk kl (fun h => h pG)
  have hhp := h9.hp
  have hsz := h9.tn.size
  have hbw9 := below_of_P hA8.bw pw h9.tn
  have H9 := Lib.hid (And.intro h9 (And.intro kl9 (And.intro hhp (And.intro hsz hbw9))))
  clear kc kl c0 k1 MK HC h8 hT8 hA8 z1 h9 kl9 hhp hsz hbw9
  go_upto_region 9 with (first
    | (refine wpList_row_at rfl _ _ rfl (w.heap.size + 1) rfl _ _ _ _ kc9 Tryz.underlying29 rfl L11.crtInfo ?_)
    | (refine wpList_store_new rfl _ _ _ rfl w9 (crtC c) rfl rfl _ _ L11.crtInfo rfl (L11.crtC_ones _) ?_))
  obtain ⟨h9, kl9, hhp, hsz, hbw9⟩ := H9.out
  have hb10 := below_new w9 (.cells (crtC c) 29)
  have km10 : Blk (w9.alloc (.cells (crtC c) 29)) w9.heap.size 29 (crtC c) := Blk.new _ _ _
  have kx10 := kc9.below hb10 kc9.lt
  have kl10 := kl9.below hb10 kl9.lt
  have h10 := h9.rebase (P' := fun k => P k ∨ k = w9.heap.size) hb10 (fun k hk => by rcases hk with h | rfl; exact .inl h; exact .inr (Nat.le_refl _)) (fun k hk => by
    have := hb10.size
    have := km10.lt
    rcases hk with h | rfl
    · have := hhp k h; omega
    · exact km10.lt)
  have hbw10 := nxt hbw9 hb10
  have o1 := kl9.lt
  have o2 := kc9.lt
  obtain ⟨gm, hgm⟩ : ∃ gm, gm = w9.heap.size := ⟨_, rfl⟩
  rw [← hgm] at km10 h10 o1 o2 ⊢
  have o3 : w.heap.size ≤ gm := by rw [hgm]; exact hbw9.size
  refine name_world (fun w10 hw10 => ?_)
  rw [← hw10] at km10 kx10 kl10 h10 hbw10
  have c6 : w10.cell? ⟨w.heap.size + 1, 6, none⟩ = some (.int .u32 c.sg) := kx10.cell 6
  have m6 : w10.cell? ⟨gm, 6, none⟩ = some (.int .u32 c.sg) := km10.cell 6
  have f6 := km10.frozen 6
  have hput := L4.put_any c.sg kn w10 HX.out.2.2.2.2.2.2.2.1 HKN.out
  have H10 := Lib.hid (And.intro h10 (And.intro kl10 (And.intro kx10 (And.intro km10 (And.intro hbw10 (And.intro o1 (And.intro o2 (And.intro o3 pw))))))))
  clear hb10 km10 kx10 kl10 h10 hbw10 hw10 hgm kc9 h9 kl9 hhp hsz hbw9 H9 o1 o2 o3 pG pc pw hne
  go_upto_region 10 with (first
    | (go_at_call 39; refine hput.mono ?_; rintro e w10' ⟨rfl, rfl⟩))
  obtain ⟨h10, kl10, kx10, km10, hbw10, o1, o2, o3, pw⟩ := H10.out
  have hs : Turn (fun i => i = gm) w10 (w10.setCell ⟨gm, 6, none⟩ (.int .u32 ((c.sg ||| 2 ^ kn : Nat) : Int))) := Turn.setCell (S := fun i => i = gm) (Turn.refl _ w10) (p := ⟨gm, 6, none⟩) (.inl rfl) _
  have h11 := h10.struck (.inr rfl) ⟨gm, 6, none⟩ rfl (.int .u32 ((c.sg ||| 2 ^ kn : Nat) : Int))
  have km11 : Blk (w10.setCell ⟨gm, 6, none⟩ (.int .u32 ((c.sg ||| 2 ^ kn : Nat) : Int))) gm 29 (crtC (moreC c kn)) := km10.set_ 6 _
  have kl11 := hs.blk kl10 (by omega)
  have kx11 := hs.blk kx10 (by omega)
  have hbw11 := hbw10.trans (hs.below (B := w.heap.size) (fun i hi => by omega) hbw10.size)
  refine name_world (fun w11 hw11 => ?_)
  rw [← hw11] at h11 km11 kl11 kx11 hbw11
  have hM0 : MqAt w11 (fun k => P k ∨ k = gm) b g cc b2 g2 c2 (regsV x) (certN (regsV x) [] c) G (w.heap.size + 1) gm c (moreC c kn) w11.drew := (MqAt.mk h11 kl11 kx11 km11).below (Below.refl _ _).drew
  have hT11 : TP (fun k => P k ∨ k = gm) w11 := tp_mk (HT.out w (Below.refl _ _)) hbw11 (fun k hk => .inl (pw k hk))
  have HE := Lib.hid (And.intro hbw11 (fun k hk => Or.inl (pw k hk) : ∀ k, k < w.heap.size → (fun k => P k ∨ k = gm) k))
  have HCE := Lib.hid (fun W (h : Six w11 (fun k => P k ∨ k = gm) b g cc b2 g2 c2 (regsV x) (regsV x) (certN (regsV x) [] c) [] 21 W) => six_cert h hT11 hR.out (by decide) (moreC c kn) (moreC_wf HX.out.2 HKN.out))
  have hv := more_val (k := kn) hR.out HQ.out.1 HQ.out.2
  obtain ⟨n, hn⟩ : ∃ n, n = L7.cntE (regsV x).f (regsV x).bad (regsV x).L (shrOf kn (stmV c)) := ⟨_, rfl⟩
  obtain ⟨q, hq⟩ : ∃ q, q = certE (regsV x) (moreC c kn) := ⟨_, rfl⟩
  have HCN : Hid (∀ W, MqAt w11 (fun k => P k ∨ k = gm) b g cc b2 g2 c2 (regsV x) (certN (regsV x) [] c) G (w.heap.size + 1) gm c (moreC c kn) W → Calls Tryz.prog 34 #[.pointer (some ⟨g, 0, none⟩), .agg (shrC (shrOf kn (stmV c)))] W (gives (.int .i64 n) W)) := Lib.hid (fun W h => by
    rw [hn]
    exact six_counts h.six hR.out _ ⟨by have := HKN.out; show L7.inI (kn : Int); unfold L7.inI; omega, L11.stmV_wf HX.out.2⟩)
  rw [← hn, ← hq] at hv
  rw [← hq] at HCE
  clear hn hq c6 m6 f6 hput H10 h10 kl10 kx10 km10 hbw10 o1 o2 o3 pw hs h11 km11 kl11 kx11 hbw11 hw11 hT11
  have hS := hM0
  have ne : Nonempty (WorldIn (MqAt w11 (fun k => P k ∨ k = gm) b g cc b2 g2 c2 (regsV x) (certN (regsV x) [] c) G (w.heap.size + 1) gm c (moreC c kn))) := ⟨⟨_, hS⟩⟩
  have d0 : ∀ y : WorldIn (MqAt w11 (fun k => P k ∨ k = gm) b g cc b2 g2 c2 (regsV x) (certN (regsV x) [] c) G (w.heap.size + 1) gm c (moreC c kn)), y.w.cell? ⟨G, 1, none⟩ = some (.pointer (some ⟨g, 0, none⟩)) := fun y => y.h.kl.cell 1
  refine wp_region_S (MqAt w11 (fun k => P k ∨ k = gm) b g cc b2 g2 c2 (regsV x) (certN (regsV x) [] c) G (w.heap.size + 1) gm c (moreC c kn)) (by kernel_rfl) (by kernel_rfl) hS ?_
  repeat (first
    | (refine wpQuiet_row rfl _ _ rfl (w.heap.size + 1) rfl _ _ _ _ (fun y => y.h.kx) Tryz.underlying29 rfl L11.crtInfo ?_
       conv => arg 6; simp only [Act.put, List.setIfInBounds_toArray, List.set_cons_zero, List.set_cons_succ])
    | (refine wpQuiet_fn rfl 35 _ _ rfl Tryz.call35 [.agg (crtC c)] rfl (v := .agg (stmC (stmV c))) (fun y => (L11.stmt_any c y.w).mono fun e w' ⟨he, hb⟩ => ⟨he, y.h.below hb⟩) ?_
       conv => arg 6; simp only [Act.put, List.setIfInBounds_toArray, List.set_cons_zero, List.set_cons_succ])
    | (refine wpQuiet_build rfl _ _ rfl #[(0, .int .i64 kn), (1, .agg (stmC (stmV c)))] rfl (v := .agg (shrC (shrOf kn (stmV c)))) (fun W => build_shrS _ _ W) ?_
       conv => arg 6; simp only [Act.put, List.setIfInBounds_toArray, List.set_cons_zero, List.set_cons_succ])
    | (refine wpQuiet_fn rfl 34 _ _ rfl Tryz.call34 [.pointer (some ⟨g, 0, none⟩), .agg (shrC (shrOf kn (stmV c)))] rfl (v := .int .i64 n) (fun y => (HCN.out y.w y.h).mono fun e w' ⟨he, hb⟩ => ⟨he, y.h.below hb⟩) ?_
       conv => arg 6; simp only [Act.put, List.setIfInBounds_toArray, List.set_cons_zero, List.set_cons_succ])
    | go_big_quiet_step (fail))
  refine wpQuiet_nil ?_
  intro y
  obtain ⟨w12, hA⟩ := y
  dsimp only
  clear ne d0 hS hM0
  have hce := HCE.out w12 hA.six
  by_cases h0 : n = 0
  · have hq0 : q = 0 := hv.2 h0
    subst h0
    subst hq0
    clear hv
    go_wp2_with (first
      | (refine wpList_row_at rfl _ _ rfl G rfl _ _ _ _ hA.kl Tryz.underlying39 rfl lawInfo ?_)
      | (refine wpList_row_at rfl _ _ rfl gm rfl _ _ _ _ hA.km Tryz.underlying29 rfl L11.crtInfo ?_)
      | (go_at_call 11; refine hce.mono ?_; rintro e w13 ⟨rfl, h13⟩))
    go_ret
    exact ⟨rfl, below_of_P HE.out.1 HE.out.2 h13.tn⟩
  · have hq0 : ¬ q = 0 := fun h => h0 (hv.1 h)
    have q1 : (n == 0) = false := by simpa using h0
    have q2 : (q == 0) = false := by simpa using hq0
    clear hv h0 hq0
    go_wp2_with (first
      | (refine wpList_row_at rfl _ _ rfl G rfl _ _ _ _ hA.kl Tryz.underlying39 rfl lawInfo ?_)
      | (refine wpList_row_at rfl _ _ rfl gm rfl _ _ _ _ hA.km Tryz.underlying29 rfl L11.crtInfo ?_)
      | (go_at_call 11; refine hce.mono ?_; rintro e w13 ⟨rfl, h13⟩))
    go_ret
    exact ⟨rfl, below_of_P HE.out.1 HE.out.2 h13.tn⟩
end Go.Proofs.YtomaaidhmccngaaGreatDoor
