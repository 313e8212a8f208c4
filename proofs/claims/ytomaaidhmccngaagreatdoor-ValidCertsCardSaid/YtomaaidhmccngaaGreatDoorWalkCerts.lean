import Derived.Test.YtomaaidhmccngaaGreatDoorV6
import Derived.Test.YtomaaidhmccngaaGreatDoorD5
set_option maxRecDepth 100000
set_option maxHeartbeats 16000000
namespace Go.Proofs.YtomaaidhmccngaaGreatDoor
open Go.RowKit Go.Maps Go.Lib
open L3 (Blk Reads)
open L6 (Turn)
open L11 (Crt crtC qaj)
structure CwAt (w : World) (x : InV) (a : InA) (c : Crt) (t : Tmo) (A : Option Addr) (p : List Tmo) (W : World) : Prop where
 bi : Blk W w.heap.size 27 (inC x a)
 bc : Blk W (w.heap.size + 1) 29 (crtC c)
 bt : Blk W (w.heap.size + 2) 31 (tmC t)
 hin : InAt x a W
 rp : Rd tmL 10 W A p
 bw : Below w.heap.size w W
theorem CwAt.below {w W W' : World} {x : InV} {a : InA} {c : Crt} {t : Tmo} {A : Option Addr} {p : List Tmo} (h : CwAt w x a c t A p W) (hb : Below W.heap.size W W') : CwAt w x a c t A p W' := ⟨h.bi.below hb h.bi.lt, h.bc.below hb h.bc.lt, h.bt.below hb h.bt.lt, h.hin.below hb, h.rp.below hb, nxt h.bw hb⟩
structure CsAt (w : World) (G : Nat) (b g cc b2 g2 c2 : Nat) (c : Crt) (t : Tmo) (A : Option Addr) (p : List Tmo) (W : World) : Prop where
 kl : Blk W G 39 (lawA (some ⟨b, 0, none⟩) (some ⟨g, 0, none⟩) (some ⟨cc, 0, none⟩))
 kr : Blk W (G + 1) 44 (lawA (some ⟨b2, 0, none⟩) (some ⟨g2, 0, none⟩) (some ⟨c2, 0, none⟩))
 kc : Blk W (w.heap.size + 1) 29 (crtC c)
 kt : Blk W (w.heap.size + 2) 31 (tmC t)
 rp : Rd tmL 10 W A p
 bw : Below w.heap.size w W
theorem CsAt.below {w : World} {G b g cc b2 g2 c2 : Nat} {c : Crt} {t : Tmo} {A : Option Addr} {p : List Tmo} {W W' : World} (h : CsAt w G b g cc b2 g2 c2 c t A p W) (hb : Below W.heap.size W W') : CsAt w G b g cc b2 g2 c2 c t A p W' := ⟨h.kl.below hb h.kl.lt, h.kr.below hb h.kr.lt, h.kc.below hb h.kc.lt, h.kt.below hb h.kt.lt, h.rp.below hb, nxt h.bw hb⟩
structure DsAt (w : World) (G : Nat) (b g cc b2 g2 c2 : Nat) (c : Crt) (t : Tmo) (A : Option Addr) (p : List Tmo) (G1 G2 : Nat) (z : Blo) (P1 T1 P2 T2 : Value) (W : World) : Prop where
 cs : CsAt w G b g cc b2 g2 c2 c t A p W
 k1 : Blk W G1 57 (bloC z P1 T1)
 k2 : Blk W G2 57 (bloC z P2 T2)
 l1 : Lies W z P1 T1
 l2 : Lies W z P2 T2
theorem DsAt.below {w : World} {G b g cc b2 g2 c2 : Nat} {c : Crt} {t : Tmo} {A : Option Addr} {p : List Tmo} {G1 G2 : Nat} {z : Blo} {P1 T1 P2 T2 : Value} {W W' : World} (h : DsAt w G b g cc b2 g2 c2 c t A p G1 G2 z P1 T1 P2 T2 W) (hb : Below W.heap.size W W') : DsAt w G b g cc b2 g2 c2 c t A p G1 G2 z P1 T1 P2 T2 W' := ⟨h.cs.below hb, h.k1.below hb h.k1.lt, h.k2.below hb h.k2.lt, h.l1.below hb, h.l2.below hb⟩
theorem qm3 (z : Blo) (P1 T1 P2 T2 : Value) (w : World) (hz : z.wf) (h1 : Lies w z P1 T1) (h2 : Lies w z P2 T2) : Calls Tryz.prog 21 #[.agg (bloC z P1 T1), .agg (bloC z P2 T2)] w (gives (.bool true) w) := by
 obtain ⟨A, c, B, d, rfl, rfl, r1, r2⟩ := h1
 obtain ⟨A', c', B', d', rfl, rfl, r3, r4⟩ := h2
 have h := qmq z z A c B d A' c' B' d' w hz hz r1 r2 r3 r4 (by simp) (by simp) (by simp) (by simp) (by simp) (by simp) (by simp)
 rw [qkE] at h
 exact h
theorem qjX (x : InV) (a : InA) (c : Crt) (t : Tmo) (A : Option Addr) (cp : Nat) (p : List Tmo) (v : Int) (w : World) (hx : x.raw) (hc : c.wf) (ht : t.wf) (hp : Rd tmL 10 w A p) (hwf : ∀ t ∈ p, t.wf) (hcp : p.length <= cp) (hin : InAt x a w) (hT : T13 w) :
 Calls Tryz.prog 3 #[.agg (inC x a), .agg (crtC c), .agg (tmC t), .slice A p.length cp, .int .i64 v] w (gives (.bool true) w) := by
 have Z := qee w 27 29 31 (inC x a) (crtC c) (tmC t)
 have N0 := hid (show CwAt w x a c t A p _ from ⟨Z.1, Z.2.1, Z.2.2.1, hin.below Z.2.2.2, hp.below Z.2.2.2, Z.2.2.2⟩)
 have HT := hid (fun w' (hb : Below w.heap.size w w') => hT.kept hb)
 have HX := hid (And.intro hx (And.intro hc (And.intro ht (And.intro hwf hcp))))
 have HOP := hid (show p.length ≠ 0 -> ∀ ad, A = some ad -> ad.block < w.heap.size from fun h0 ad ha => by
  obtain ⟨ad', ha', hl, _⟩ := hp 0 (by omega)
  rw [ha] at ha'
  injection ha' with ha'
  subst ha'
  exact hl)
 obtain ⟨np, hnp⟩ := nm (p.length)
 rw [<- hnp]
 have HNP := hid hnp
 clear hin hT hx hc ht hp hwf hcp Z hnp
 go_enter Tryz.func3, Tryz.ntmps3
 go_upto_region 1 with fail
 refine qab (fun w0 hw0 => ?_)
 have hA0 : CwAt w x a c t A p w0 := by rw [hw0]; exact N0.out
 clear hw0 N0
 have hal := qjG w0 (HT.out _ hA0.bw)
 go_upto_region 3 with (first
  | (go_at_call 8; refine hal.mono ?_; unfold gives; rintro e w1 ⟨rfl, hb1⟩))
 have hA1 := hA0.below hb1
 clear hA0 hb1 hal
 have hfr := far_any x a w1 HX.out.1 hA1.hin
 rcases Bool.eq_false_or_eq_true (farV x) with hf | hf
 ·rw [hf] at hfr
  clear hf
  go_wp2_with (first
   | (refine qaa rfl _ _ rfl w.heap.size rfl _ _ _ _ hA1.bi Tryz.underlying27 rfl inInfo ?_)
   | (go_at_call 9; refine hfr.mono ?_; unfold gives; rintro e w2 ⟨rfl, hb2⟩))
  go_ret
  exact ⟨rfl, nxt hA1.bw hb2⟩
 rw [hf] at hfr
 have hwf := ql6 HX.out.1 hf
 clear hf
 by_cases h30 : 30 < np
 ·go_wp2_with (first
   | (refine qaa rfl _ _ rfl w.heap.size rfl _ _ _ _ hA1.bi Tryz.underlying27 rfl inInfo ?_)
   | (go_at_call 9; refine hfr.mono ?_; unfold gives; rintro e w2 ⟨rfl, hb2⟩))
  go_ret
  exact ⟨rfl, nxt hA1.bw hb2⟩
 go_upto_region 5 with (first
  | (refine qaa rfl _ _ rfl w.heap.size rfl _ _ _ _ hA1.bi Tryz.underlying27 rfl inInfo ?_)
  | (go_at_call 9; refine hfr.mono ?_; unfold gives; rintro e w2b ⟨rfl, hb2b⟩))
 have hA2 := hA1.below hb2b
 have H30 := hid h30
 clear hA1 hb2b hfr h30
 by_cases hn : L7.newE x.f x.bad = 0
 case neg =>
  have hL := qjl x a w2b hwf.f hwf.bad hn
  clear hn
  go_wp2_with (first
   | (refine qaa rfl _ _ rfl w.heap.size rfl _ _ _ _ hA2.bi Tryz.underlying27 rfl inInfo ?_)
   | (go_at_call 10; refine hL.mono ?_; unfold gives; rintro e w3 ⟨rfl, hb3⟩
      have Z := hid (qfe w3 none none none none none none))
   | (refine wpList_store_row rfl _ _ _ rfl w3.heap.size (lawA none none none) rfl rfl _ _ Z.out.1 lawInfo rfl (qbg _ _ _) ?_)
   | (refine wpList_store_row rfl _ _ _ rfl (w3.heap.size + 1) (lawA none none none) rfl rfl _ _ Z.out.2.1 rlawInfo rfl (qbg _ _ _) ?_))
  go_ret
  exact ⟨rfl, nxt (nxt hA2.bw hb3) Z.out.2.2.2.2⟩
 have HL := hid ((qlP x a w2b hwf hA2.hin (HT.out _ hA2.bw) hn).mono (R' := fun e W' => ∃ b g cc b2 g2 c2 : Nat, e = .returned (.tuple #[.agg (lawA (some ⟨b, 0, none⟩) (some ⟨g, 0, none⟩) (some ⟨cc, 0, none⟩)), .agg (lawA (some ⟨b2, 0, none⟩) (some ⟨g2, 0, none⟩) (some ⟨c2, 0, none⟩)), .bool true]) /\ Six w2b (fun k => k < w2b.heap.size) b g cc b2 g2 c2 (regsV x) (regsV x) [] [] 20 W') (by
  rintro e W' (⟨h1, _⟩ | ⟨_, h⟩)
  ·exact absurd hn h1
  ·exact h))
 have hR := hid (qmr hwf hn)
 clear hn hwf
 go_upto_region 6 with (first
  | (refine qaa rfl _ _ rfl w.heap.size rfl _ _ _ _ hA2.bi Tryz.underlying27 rfl inInfo ?_)
  | (go_at_call 10; refine HL.out.mono ?_; rintro e w3 ⟨b, g, cc, b2, g2, c2, rfl, h3⟩
     have Z := hid (qfe w3 (some ⟨b, 0, none⟩) (some ⟨g, 0, none⟩) (some ⟨cc, 0, none⟩) (some ⟨b2, 0, none⟩) (some ⟨g2, 0, none⟩) (some ⟨c2, 0, none⟩)))
  | (refine wpList_store_row rfl _ _ _ rfl w3.heap.size (lawA (some ⟨b, 0, none⟩) (some ⟨g, 0, none⟩) (some ⟨cc, 0, none⟩)) rfl rfl _ _ Z.out.1 lawInfo rfl (qbg _ _ _) ?_)
  | (refine wpList_store_row rfl _ _ _ rfl (w3.heap.size + 1) (lawA (some ⟨b2, 0, none⟩) (some ⟨g2, 0, none⟩) (some ⟨c2, 0, none⟩)) rfl rfl _ _ Z.out.2.1 rlawInfo rfl (qbg _ _ _) ?_))
 refine qab (fun w8 hw8 => ?_)
 have hZ := Z.out.2.2
 rw [<- hw8] at hZ
 obtain ⟨z1, z2, z3⟩ := hZ
 have h23 := qc1 (Below.refl _ w2b) (fun k hk => hk) h3.tn
 have h28 := nxt h23 z3
 have hA8 := hA2.below h28
 have h8 := qhT h3 z3 z2.lt
 have hT8 : TP (fun k => k < w2b.heap.size ∨ k = w3.heap.size ∨ k = w3.heap.size + 1) w8 := tp_mk (HT.out _ hA2.bw) h28 (fun k hk => .inl hk)
 obtain ⟨G, hG⟩ := nm (w3.heap.size)
 rw [<- hG] at h8 hT8 z1 z2 ⊢
 obtain ⟨P, hP⟩ : ∃ P : Nat -> Prop, P = fun k => k < w2b.heap.size ∨ k = G ∨ k = G + 1 := ⟨_, rfl⟩
 rw [<- hP] at h8 hT8
 have g1 := hA2.bt.lt
 have pG : P G := by rw [hP]; exact .inr (.inl rfl)
 have pG1 : P (G + 1) := by rw [hP]; exact .inr (.inr rfl)
 have pc : P (w.heap.size + 1) := by rw [hP]; exact .inl (by omega)
 have pt : P (w.heap.size + 2) := by rw [hP]; exact .inl g1
 have pw : ∀ k, k < w.heap.size -> P k := fun k hk => by rw [hP]; exact .inl (by omega)
 have HST : Hid (∀ (N N2 : List Int) (B : Nat) (W : World), Six w8 P b g cc b2 g2 c2 (regsV x) (regsV x) N N2 B W -> CsAt w G b g cc b2 g2 c2 c t A p W) := hid fun N N2 B W h => ⟨h.tn.blk z1 (fun k => k pG), h.tn.blk z2 (fun k => k pG1), h.tn.blk hA8.bc (fun k => k pc), h.tn.blk hA8.bt (fun k => k pt), hA8.rp.kept2 h.tn (fun h0 ad ha hn => hn (pw _ (HOP.out h0 ad ha))), qc1 hA8.bw pw h.tn⟩
 obtain ⟨N1, hN1⟩ := nm (certN (regsV x) [] c)
 obtain ⟨N2, hN2⟩ := nm (timN (regsV x) N1 t)
 obtain ⟨N3, hN3⟩ := nm (proN (regsV x) N2 v p)
 have l1 : N1.length <= 1 := by rw [hN1]; exact qhe _ _ _
 have l2 : N2.length <= 2 := by rw [hN2]; have := qgP (regsV x) N1 t; omega
 have l3 : N3.length <= 100 := by rw [hN3]; have := proN_len (regsV x) N2 v p; have := HNP.out; have := H30.out; omega
 obtain ⟨q1, hq1⟩ := nm (certE (regsV x) c)
 obtain ⟨q2, hq2⟩ := nm (timE (regsV x) t)
 obtain ⟨q3, hq3⟩ := nm (proE (regsV x) v p)
 obtain ⟨hi, hhi⟩ := nm (highV p)
 have hiw : hi.wf := by rw [hhi]; exact highV_wf p HX.out.2.2.2.1
 obtain ⟨z, hz⟩ := nm (contV (regsV x).K c.block)
 have HZW := hid (show z.1.wf by rw [hz]; exact contV_wf _ _)
 obtain ⟨sn, hsn⟩ := nm (decide (c.view ∈ N3))
 have hop : p.length ≠ 0 -> ∀ ad, A = some ad -> P ad.block := fun h0 ad ha => pw _ (HOP.out h0 ad ha)
 have hpl : p.length <= 30 := by have := HNP.out; have := H30.out; omega
 have HC1 : Hid (∀ W, Six w8 P b g cc b2 g2 c2 (regsV x) (regsV x) [] [] 20 W -> Calls Tryz.prog 11 #[.agg (lawA (some ⟨b, 0, none⟩) (some ⟨g, 0, none⟩) (some ⟨cc, 0, none⟩)), .agg (crtC c)] W fun e W' => e = .returned (.int .i64 q1) /\ Six w8 P b g cc b2 g2 c2 (regsV x) (regsV x) N1 [] 21 W') := hid fun W h => by rw [hq1, hN1]; exact qgK h hT8 hR.out (by decide) c HX.out.2.1
 have HC2 : Hid (∀ W, Six w8 P b g cc b2 g2 c2 (regsV x) (regsV x) N1 [] 21 W -> Calls Tryz.prog 12 #[.agg (lawA (some ⟨b2, 0, none⟩) (some ⟨g2, 0, none⟩) (some ⟨c2, 0, none⟩)), .agg (crtC c)] W fun e W' => e = .returned (.int .i64 q1) /\ Six w8 P b g cc b2 g2 c2 (regsV x) (regsV x) N1 N1 21 W') := hid fun W h => by
  have := qmA h hR.out (by decide) c HX.out.2.1
  rw [<- hN1, <- hq1] at this
  exact this
 have HC3 : Hid (∀ W, Six w8 P b g cc b2 g2 c2 (regsV x) (regsV x) N1 N1 21 W -> Calls Tryz.prog 13 #[.agg (lawA (some ⟨b, 0, none⟩) (some ⟨g, 0, none⟩) (some ⟨cc, 0, none⟩)), .agg (tmC t)] W fun e W' => e = .returned (.int .i64 q2) /\ Six w8 P b g cc b2 g2 c2 (regsV x) (regsV x) N2 N1 22 W') := hid fun W h => by rw [hq2, hN2]; exact six_tim h hT8 hR.out (by decide) t HX.out.2.2.1
 have HC4 : Hid (∀ W, Six w8 P b g cc b2 g2 c2 (regsV x) (regsV x) N2 N1 22 W -> Calls Tryz.prog 14 #[.agg (lawA (some ⟨b2, 0, none⟩) (some ⟨g2, 0, none⟩) (some ⟨c2, 0, none⟩)), .agg (tmC t)] W fun e W' => e = .returned (.int .i64 q2) /\ Six w8 P b g cc b2 g2 c2 (regsV x) (regsV x) N2 N2 22 W') := hid fun W h => by
  have := six_rtim h hR.out (by omega) t HX.out.2.2.1
  rw [<- hN2, <- hq2] at this
  exact this
 have HC5 : Hid (∀ W, Six w8 P b g cc b2 g2 c2 (regsV x) (regsV x) N2 N2 22 W -> Calls Tryz.prog 15 #[.agg (lawA (some ⟨b, 0, none⟩) (some ⟨g, 0, none⟩) (some ⟨cc, 0, none⟩)), .int .i64 v, .slice A np cp] W fun e W' => e = .returned (.int .i64 q3) /\ ∃ B, Six w8 P b g cc b2 g2 c2 (regsV x) (regsV x) N3 N2 B W') := hid fun W h => by
  rw [hq3, hN3, HNP.out]
  refine (six_pro h hT8 hR.out v A cp p (by omega) (HST.out _ _ _ _ h).rp HX.out.2.2.2.1 hop).mono ?_
  rintro e W' ⟨he, hs⟩
  exact ⟨he, _, hs⟩
 have HC6 : Hid (∀ B W, Six w8 P b g cc b2 g2 c2 (regsV x) (regsV x) N3 N2 B W -> Calls Tryz.prog 16 #[.agg (lawA (some ⟨b2, 0, none⟩) (some ⟨g2, 0, none⟩) (some ⟨c2, 0, none⟩)), .int .i64 v, .slice A np cp] W fun e W' => e = .returned (.int .i64 q3) /\ Six w8 P b g cc b2 g2 c2 (regsV x) (regsV x) N3 N3 B W') := hid fun B W h => by
  have := six_rpro h hR.out v A cp p (by omega) (by omega) (HST.out _ _ _ _ h).rp HX.out.2.2.2.1 hop
  rw [<- hN3, <- hq3, <- HNP.out] at this
  exact this
 have HC7 : Hid (∀ W, CsAt w G b g cc b2 g2 c2 c t A p W -> Calls Tryz.prog 17 #[.slice A np cp] W (gives (.agg (crtC hi)) W)) := hid fun W h => by rw [hhi, HNP.out]; exact qfd A cp p W h.rp (by omega) HX.out.2.2.2.2
 have HC8 : Hid (∀ W, CsAt w G b g cc b2 g2 c2 c t A p W -> Calls Tryz.prog 18 #[.slice A np cp] W (gives (.agg (crtC hi)) W)) := hid fun W h => by rw [hhi, HNP.out]; exact qmu A cp p W h.rp (by omega)
 have HC9 : Hid (∀ B W, Six w8 P b g cc b2 g2 c2 (regsV x) (regsV x) N3 N3 B W -> Calls Tryz.prog 19 #[.agg (lawA (some ⟨b, 0, none⟩) (some ⟨g, 0, none⟩) (some ⟨cc, 0, none⟩)), .int .i64 c.block] W (toldB z W)) := hid fun B W h => by rw [hz]; exact qiH h hT8 hR.out c.block
 have HC10 : Hid (∀ B W, Six w8 P b g cc b2 g2 c2 (regsV x) (regsV x) N3 N3 B W -> Calls Tryz.prog 20 #[.agg (lawA (some ⟨b2, 0, none⟩) (some ⟨g2, 0, none⟩) (some ⟨c2, 0, none⟩)), .int .i64 c.block] W (toldB z W)) := hid fun B W h => by rw [hz]; exact qhV h hR.out c.block
 have HC11 : Hid (∀ B W, Six w8 P b g cc b2 g2 c2 (regsV x) (regsV x) N3 N3 B W -> Calls Tryz.prog 22 #[.pointer (some ⟨cc, 0, none⟩), .int .i64 c.view] W fun e w' => e = .returned (.bool sn) /\ W = w') := hid fun B W h => by rw [hsn]; exact six_seen h c.view HX.out.2.1.2.2.1
 have HC12 : Hid (∀ B W, Six w8 P b g cc b2 g2 c2 (regsV x) (regsV x) N3 N3 B W -> Calls Tryz.prog 23 #[.pointer (some ⟨c2, 0, none⟩), .int .i64 c.view] W fun e w' => e = .returned (.bool sn) /\ W = w') := hid fun B W h => by rw [hsn]; exact six_was h c.view (by omega)
 have HNQ : Hid (∀ W, (binOp .neq 29 (.agg (crtC hi)) (.agg (crtC hi))).run Tryz.prog W = .ok (.bool false) W) := hid fun W => by rw [L11.neqC hiw hiw W]; simp
 have HSM : Hid (∀ (G1 G2 : Nat) (P1 T1 P2 T2 : Value) (W : World), DsAt w G b g cc b2 g2 c2 c t A p G1 G2 z.1 P1 T1 P2 T2 W -> Calls Tryz.prog 21 #[.agg (bloC z.1 P1 T1), .agg (bloC z.1 P2 T2)] W (gives (.bool true) W)) := hid fun G1 G2 P1 T1 P2 T2 W h => qm3 z.1 P1 T1 P2 T2 W HZW.out h.l1 h.l2
 clear hsn hz HZW hN1 hN2 hN3 l1 l2 l3 hq1 hq2 hq3 hhi hiw hop hpl hw8 z1 z2 z3 Z HL h3 h23 h28 hT8 pG pG1 pc pt pw hP hG g1 hA2 hA8 HOP HT hR
 go_upto_region 8 with fail
 have hAd := (HST.out _ _ _ _ h8).below (Below.refl _ w8).drew
 have hSd := h8.below (Below.refl _ w8).drew
 clear h8
 obtain ⟨wd, hwd⟩ := nm (w8.drew)
 rw [<- hwd] at hAd hSd
 refine qak (CsAt w G b g cc b2 g2 c2 c t A p) [0, 1, 3, 4, 6, 7, 8, 9, 11, 12, 14, 15, 16, 17, 18, 19, 21, 22, 23, 25, 26, 27, 28, 30] (by kernel_rfl) ?_
 rw [<- hwd]
 clear hwd
 refine qar (f := 30) (by kernel_rfl) (fun _ x _ _ _ h => by cases x <;> exact h) hAd [0, 1, 3, 4] _ _ (by kernel_rfl) (by kernel_rfl) (by kernel_rfl) ?_
 have ne : Nonempty (qad (CsAt w G b g cc b2 g2 c2 c t A p)) := ⟨⟨_, hAd⟩⟩
 conv => arg 5; simp [pick]
 refine qam rfl _ _ rfl G rfl _ _ _ _ (fun y => y.h.kl) Tryz.underlying39 rfl lawInfo ?_
 conv => arg 6; simp only [Act.put, sA, sB, sC]
 refine qam rfl _ _ rfl (w.heap.size + 1) rfl _ _ _ _ (fun y => y.h.kc) Tryz.underlying29 rfl L11.crtInfo ?_
 conv => arg 6; simp only [Act.put, sA, sB, sC]
 refine qam rfl _ _ rfl (G + 1) rfl _ _ _ _ (fun y => y.h.kr) Tryz.underlying44 rfl rlawInfo ?_
 conv => arg 6; simp only [Act.put, sA, sB, sC]
 refine qam rfl _ _ rfl (w.heap.size + 1) rfl _ _ _ _ (fun y => y.h.kc) Tryz.underlying29 rfl L11.crtInfo ?_
 conv => arg 6; simp only [Act.put, sA, sB, sC]
 refine wpQuiet_nil ?_
 clear ne
 have hcall := HC1.out wd hSd
 refine qag 2 (by kernel_rfl) rfl ?_
 go_wp2_with (go_at_call 11; refine hcall.mono ?_; rintro e w11 ⟨rfl, s11⟩)
 clear hcall
 have a11 := HST.out _ _ _ _ s11
 refine stepQ.mk ⟨fun _ => a11, ?_⟩
 have hcall := HC2.out w11 s11
 refine qag 5 (by kernel_rfl) rfl ?_
 go_wp2_with (go_at_call 12; refine hcall.mono ?_; rintro e w12 ⟨rfl, s12⟩)
 clear hcall
 have a12 := HST.out _ _ _ _ s12
 refine stepQ.mk ⟨fun _ => a12, ?_⟩
 clear hAd hSd a11 s11
 refine qar (f := 22) (by kernel_rfl) (fun _ x _ _ _ h => by cases x <;> exact h) a12 [6, 7, 8, 9, 11, 12] _ _ (by kernel_rfl) (by kernel_rfl) (by kernel_rfl) ?_
 have ne : Nonempty (qad (CsAt w G b g cc b2 g2 c2 c t A p)) := ⟨⟨_, a12⟩⟩
 conv => arg 5; simp [pick]
 iterate 2 go_big_quiet_step (fail)
 refine qam rfl _ _ rfl G rfl _ _ _ _ (fun y => y.h.kl) Tryz.underlying39 rfl lawInfo ?_
 conv => arg 6; simp only [Act.put, sA, sB, sC]
 refine qam rfl _ _ rfl (w.heap.size + 2) rfl _ _ _ _ (fun y => y.h.kt) Tryz.underlying31 rfl tmInfo ?_
 conv => arg 6; simp only [Act.put, sA, sB, sC]
 refine qam rfl _ _ rfl (G + 1) rfl _ _ _ _ (fun y => y.h.kr) Tryz.underlying44 rfl rlawInfo ?_
 conv => arg 6; simp only [Act.put, sA, sB, sC]
 refine qam rfl _ _ rfl (w.heap.size + 2) rfl _ _ _ _ (fun y => y.h.kt) Tryz.underlying31 rfl tmInfo ?_
 conv => arg 6; simp only [Act.put, sA, sB, sC]
 refine wpQuiet_nil ?_
 clear ne
 have hcall := HC3.out w12 s12
 refine qag 10 (by kernel_rfl) rfl ?_
 go_wp2_with (go_at_call 13; refine hcall.mono ?_; rintro e w13 ⟨rfl, s13⟩)
 clear hcall
 have a13 := HST.out _ _ _ _ s13
 refine stepQ.mk ⟨fun _ => a13, ?_⟩
 have hcall := HC4.out w13 s13
 refine qag 13 (by kernel_rfl) rfl ?_
 go_wp2_with (go_at_call 14; refine hcall.mono ?_; rintro e w14 ⟨rfl, s14⟩)
 clear hcall
 have a14 := HST.out _ _ _ _ s14
 refine stepQ.mk ⟨fun _ => a14, ?_⟩
 clear a12 s12 a13 s13
 refine qar (f := 11) (by kernel_rfl) (fun _ x _ _ _ h => by cases x <;> exact h) a14 [14, 15, 16, 17, 18, 19, 21, 22, 23] _ _ (by kernel_rfl) (by kernel_rfl) (by kernel_rfl) ?_
 have ne : Nonempty (qad (CsAt w G b g cc b2 g2 c2 c t A p)) := ⟨⟨_, a14⟩⟩
 conv => arg 5; simp [pick]
 iterate 3 go_big_quiet_step (fail)
 refine qam rfl _ _ rfl G rfl _ _ _ _ (fun y => y.h.kl) Tryz.underlying39 rfl lawInfo ?_
 conv => arg 6; simp only [Act.put, sA, sB, sC]
 iterate 2 go_big_quiet_step (fail)
 refine qam rfl _ _ rfl (G + 1) rfl _ _ _ _ (fun y => y.h.kr) Tryz.underlying44 rfl rlawInfo ?_
 conv => arg 6; simp only [Act.put, sA, sB, sC]
 iterate 2 go_big_quiet_step (fail)
 refine wpQuiet_nil ?_
 clear ne
 have hcall := HC5.out w14 s14
 refine qag 20 (by kernel_rfl) rfl ?_
 go_wp2_with (go_at_call 15; refine hcall.mono ?_; rintro e w15 ⟨rfl, B15, s15⟩)
 clear hcall
 have a15 := HST.out _ _ _ _ s15
 refine stepQ.mk ⟨fun _ => a15, ?_⟩
 have hcall := HC6.out B15 w15 s15
 refine qag 24 (by kernel_rfl) rfl ?_
 go_wp2_with (go_at_call 16; refine hcall.mono ?_; rintro e w16 ⟨rfl, s16⟩)
 clear hcall
 have a16 := HST.out _ _ _ _ s16
 refine stepQ.mk ⟨fun _ => a16, ?_⟩
 clear a14 s14 a15 s15
 refine qar (f := 4) (by kernel_rfl) (fun _ x _ _ _ h => by cases x <;> exact h) a16 [25, 26, 27, 28, 30] _ _ (by kernel_rfl) (by kernel_rfl) (by kernel_rfl) ?_
 have ne : Nonempty (qad (CsAt w G b g cc b2 g2 c2 c t A p)) := ⟨⟨_, a16⟩⟩
 conv => arg 5; simp [pick]
 iterate 5 go_big_quiet_step (fail)
 refine wpQuiet_nil ?_
 clear ne
 have hcall := HC7.out w16 a16
 refine qag 29 (by kernel_rfl) rfl ?_
 go_wp2_with (go_at_call 17; refine hcall.mono ?_; unfold gives; rintro e w17 ⟨rfl, hb17⟩)
 clear hcall
 have a17 := a16.below hb17
 refine stepQ.mk ⟨fun _ => a17, ?_⟩
 have s17 := s16.below hb17
 have hcall := HC8.out w17 a17
 refine qag 31 (by kernel_rfl) rfl ?_
 go_wp2_with (go_at_call 18; refine hcall.mono ?_; unfold gives; rintro e w18 ⟨rfl, hb18⟩)
 clear hcall
 have a18 := a17.below hb18
 refine stepQ.mk ⟨fun _ => a18, ?_⟩
 have s18 := s17.below hb18
 clear a16 s16 hb17 a17 s17 hb18
 refine qag 32 (by kernel_rfl) rfl ?_
 go_wp2_with (refine L11.qbc rfl _ _ _ _ _ rfl (crtC hi) (crtC hi) rfl rfl (by kernel_rfl) (HNQ.out _) ?_)
 refine stepQ.mk ⟨fun _ => a18, ?_⟩
 refine qag 33 (by kernel_rfl) rfl ?_
 go_wp2
 refine stepQ.mk ⟨fun _ => a18, ?_⟩
 refine qaq [] _ _ _ (by kernel_rfl) ?_
 conv => arg 4; simp [pick]
 have c1 : w18.cell? ⟨w.heap.size + 1, 1, none⟩ = some (.int .i64 c.block) := a18.kc.cell 1
 have hcall := HC9.out _ _ s18
 go_upto_region 11 with (first
  | (refine qaa rfl _ _ rfl G rfl _ _ _ _ a18.kl Tryz.underlying39 rfl lawInfo ?_)
  | (go_at_call 19; refine hcall.mono ?_; rintro e w19 ⟨P1, T1, rfl, hL1, hb19⟩
     obtain ⟨A1, n1, d1, D1, m1, e1, rfl, rfl⟩ := qcS hL1)
  | (refine qaf rfl _ _ _ rfl w19 (bloC z.1 (.slice A1 n1 d1) (.slice D1 m1 e1)) rfl rfl _ _ (bloInfo12 _ _ _) rfl (qaC _ _ _ _ _ _ _) ?_))
 have hb20 := (Below.refl _ w19).alloc (Nat.le_refl _) (.cells (bloC z.1 (.slice A1 n1 d1) (.slice D1 m1 e1)) 57)
 have kB := Blk.new w19 57 (bloC z.1 (.slice A1 n1 d1) (.slice D1 m1 e1))
 have hY1 := (qc5 hL1 hb20).lies
 have a20 := (a18.below hb19).below hb20
 have s20 := (s18.below hb19).below hb20
 obtain ⟨G1, hG1⟩ := nm (w19.heap.size)
 rw [<- hG1] at kB ⊢
 refine qab (fun w20 hw20 => ?_)
 rw [<- hw20] at kB hY1 a20 s20
 clear hw20 hG1 hb20 hb19 hL1 a18 s18 hcall c1
 have c1 : w20.cell? ⟨w.heap.size + 1, 1, none⟩ = some (.int .i64 c.block) := a20.kc.cell 1
 have hcall := HC10.out _ _ s20
 go_upto_region 12 with (first
  | (refine qaa rfl _ _ rfl (G + 1) rfl _ _ _ _ a20.kr Tryz.underlying44 rfl rlawInfo ?_)
  | (go_at_call 20; refine hcall.mono ?_; rintro e w21 ⟨P2, T2, rfl, hL2, hb21⟩
     obtain ⟨A2, n2, d2, D2, m2, e2, rfl, rfl⟩ := qcS hL2)
  | (refine qaf rfl _ _ _ rfl w21 (bloC z.1 (.slice A2 n2 d2) (.slice D2 m2 e2)) rfl rfl _ _ (bloInfo12 _ _ _) rfl (qaC _ _ _ _ _ _ _) ?_))
 have hb22 := (Below.refl _ w21).alloc (Nat.le_refl _) (.cells (bloC z.1 (.slice A2 n2 d2) (.slice D2 m2 e2)) 57)
 have kC := Blk.new w21 57 (bloC z.1 (.slice A2 n2 d2) (.slice D2 m2 e2))
 have hY2 := (qc5 hL2 hb22).lies
 have kB2 := (kB.below hb21 kB.lt).below hb22 (kB.below hb21 kB.lt).lt
 have hY3 := (hY1.below hb21).below hb22
 have a22 := (a20.below hb21).below hb22
 have s22 := (s20.below hb21).below hb22
 obtain ⟨G2, hG2⟩ := nm (w21.heap.size)
 rw [<- hG2] at kC ⊢
 refine qab (fun w22 hw22 => ?_)
 rw [<- hw22] at kC hY2 hY3 kB2 a22 s22
 have hD : DsAt w G b g cc b2 g2 c2 c t A p G1 G2 z.1 (.slice A1 n1 d1) (.slice D1 m1 e1) (.slice A2 n2 d2) (.slice D2 m2 e2) w22 := ⟨a22, kB2, kC, hY3, hY2⟩
 clear hw22 hG2 hb22 hb21 hL2 a20 s20 hcall c1 kB hY1 kC hY2 kB2 hY3 a22
 obtain ⟨HO, hHO⟩ := nm (DsAt w G b g cc b2 g2 c2 c t A p G1 G2 z.1 (.slice A1 n1 d1) (.slice D1 m1 e1) (.slice A2 n2 d2) (.slice D2 m2 e2))
 rw [<- hHO] at hD
 have HDS : Hid (∀ W, HO W -> DsAt w G b g cc b2 g2 c2 c t A p G1 G2 z.1 (.slice A1 n1 d1) (.slice D1 m1 e1) (.slice A2 n2 d2) (.slice D2 m2 e2) W) := hid fun W h => by rw [hHO] at h; exact h
 have HDB : Hid (∀ W W', HO W -> Below W.heap.size W W' -> HO W') := hid fun W W' h hb => by rw [hHO] at h ⊢; exact h.below hb
 have HSN := hid (fun W h => HSM.out G1 G2 (.slice A1 n1 d1) (.slice D1 m1 e1) (.slice A2 n2 d2) (.slice D2 m2 e2) W (HDS.out W h))
 clear hHO HSM
 have hDd := HDB.out _ _ hD (Below.refl _ w22).drew
 have hSd := s22.below (Below.refl _ w22).drew
 clear hD s22
 obtain ⟨we, hwe⟩ := nm (w22.drew)
 rw [<- hwe] at hDd hSd
 refine qak HO [0, 1, 3, 4, 5, 6, 7, 8, 9, 10, 11, 12, 14, 15, 16, 17, 19, 20] (by kernel_rfl) ?_
 rw [<- hwe]
 clear hwe
 refine qar (f := 20) (by kernel_rfl) (fun _ x _ _ _ h => by cases x <;> exact h) hDd [0, 1] _ _ (by kernel_rfl) (by kernel_rfl) (by kernel_rfl) ?_
 have ne : Nonempty (qad HO) := ⟨⟨_, hDd⟩⟩
 conv => arg 5; simp [pick]
 refine qam rfl _ _ rfl G1 rfl _ _ _ _ (fun y => (HDS.out _ y.h).k1) Tryz.underlying57 rfl (bloInfo12 _ _ _) ?_
 conv => arg 6; simp only [Act.put, sA, sB, sC]
 refine qam rfl _ _ rfl G2 rfl _ _ _ _ (fun y => (HDS.out _ y.h).k2) Tryz.underlying57 rfl (bloInfo12 _ _ _) ?_
 conv => arg 6; simp only [Act.put, sA, sB, sC]
 refine wpQuiet_nil ?_
 clear ne
 have hcall := HSN.out we hDd
 refine qag 2 (by kernel_rfl) rfl ?_
 go_wp2_with (go_at_call 21; refine hcall.mono ?_; unfold gives; rintro e w23 ⟨rfl, hb23⟩)
 clear hcall
 have d23 := HDB.out _ _ hDd hb23
 have s23 := hSd.below hb23
 refine stepQ.mk ⟨fun _ => d23, ?_⟩
 clear hDd hSd hb23
 refine qar (f := 5) (by kernel_rfl) (fun _ x _ _ _ h => by cases x <;> exact h) d23 [3, 4, 5, 6, 7, 8, 9, 10, 11, 12, 14, 15, 16, 17] _ _ (by kernel_rfl) (by kernel_rfl) (by kernel_rfl) ?_
 have ne : Nonempty (qad HO) := ⟨⟨_, d23⟩⟩
 have y1 : ∀ y : qad HO, y.w.cell? ⟨G, 2, none⟩ = some (.pointer (some ⟨cc, 0, none⟩)) := fun y => (HDS.out _ y.h).cs.kl.cell 2
 have y2 : ∀ y : qad HO, y.w.cell? ⟨G + 1, 2, none⟩ = some (.pointer (some ⟨c2, 0, none⟩)) := fun y => (HDS.out _ y.h).cs.kr.cell 2
 have y3 : ∀ y : qad HO, y.w.cell? ⟨w.heap.size + 1, 2, none⟩ = some (.int .i64 c.view) := fun y => (HDS.out _ y.h).cs.kc.cell 2
 conv => arg 5; simp [pick]
 iterate 14 go_big_quiet_step (fail)
 refine wpQuiet_nil ?_
 clear ne y1 y2 y3
 have hcall := HC11.out _ _ s23
 refine qag 13 (by kernel_rfl) rfl ?_
 go_wp2_with (go_at_call 22; refine hcall.mono ?_; rintro e w24 ⟨rfl, rfl⟩)
 clear hcall
 refine stepQ.mk ⟨fun _ => d23, ?_⟩
 have hcall := HC12.out _ _ s23
 refine qag 18 (by kernel_rfl) rfl ?_
 go_wp2_with (go_at_call 23; refine hcall.mono ?_; rintro e w25 ⟨rfl, rfl⟩)
 clear hcall
 refine stepQ.mk ⟨fun _ => d23, ?_⟩
 refine qag 19 (by kernel_rfl) rfl ?_
 go_wp2
 refine stepQ.mk ⟨fun _ => d23, ?_⟩
 refine qag 20 (by kernel_rfl) rfl ?_
 go_wp2
 refine stepQ.mk ⟨fun _ => d23, ?_⟩
 refine qag 21 (by kernel_rfl) rfl ?_
 go_wp2
 refine stepQ.mk ⟨fun _ => d23, ?_⟩
 refine qaq [] _ _ _ (by kernel_rfl) ?_
 conv => arg 4; simp [pick]
 go_wp2
 go_ret
 exact ⟨rfl, (HDS.out _ d23).cs.bw⟩
