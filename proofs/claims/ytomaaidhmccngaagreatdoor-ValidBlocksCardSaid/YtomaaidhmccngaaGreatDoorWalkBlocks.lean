import Derived.Test.YtomaaidhmccngaaGreatDoorV6
import Derived.Test.YtomaaidhmccngaaGreatDoorD5
set_option linter.unusedSimpArgs false
set_option linter.unusedVariables false
set_option maxRecDepth 100000
set_option maxHeartbeats 16000000
namespace Go.Proofs.YtomaaidhmccngaaGreatDoor
open Go.RowKit Go.Maps Go.Lib
open L3 (Blk Reads)
open L6 (Turn)
open L11 (Crt crtC qai)
structure BwAt (w : World) (x : InV) (a : InA) (y : Blo) (A : Option Addr) (c : Nat) (D : Option Addr) (d : Nat) (W : World) : Prop where
 bi : Blk W w.heap.size 27 (inC x a)
 bx : Blk W (w.heap.size + 1) 57 (bloC y (.slice A y.proof.length c) (.slice D y.txs.length d))
 hin : InAt x a W
 rp : Rd tmL 10 W A y.proof
 rt : Rd txL 7 W D y.txs
 bw : Below w.heap.size w W
theorem BwAt.below {w W W' : World} {x : InV} {a : InA} {y : Blo} {A : Option Addr} {c : Nat} {D : Option Addr} {d : Nat} (h : BwAt w x a y A c D d W) (hb : Below W.heap.size W W') : BwAt w x a y A c D d W' := ⟨h.bi.below hb h.bi.lt, h.bx.below hb h.bx.lt, h.hin.below hb, h.rp.below hb, h.rt.below hb, nxt h.bw hb⟩
structure BsAt (G gx : Nat) (b g cc b2 g2 c2 : Nat) (y : Blo) (A : Option Addr) (c : Nat) (D : Option Addr) (d : Nat) (W : World) : Prop where
 kl : Blk W G 39 (lawA (some ⟨b, 0, none⟩) (some ⟨g, 0, none⟩) (some ⟨cc, 0, none⟩))
 kr : Blk W (G + 1) 44 (lawA (some ⟨b2, 0, none⟩) (some ⟨g2, 0, none⟩) (some ⟨c2, 0, none⟩))
 kx : Blk W gx 57 (bloC y (.slice A y.proof.length c) (.slice D y.txs.length d))
 rp : Rd tmL 10 W A y.proof
 rt : Rd txL 7 W D y.txs
theorem BsAt.turn {G gx b g cc b2 g2 c2 : Nat} {y : Blo} {A : Option Addr} {c : Nat} {D : Option Addr} {d : Nat} {S : Nat -> Prop} {W W' : World} (h : BsAt G gx b g cc b2 g2 c2 y A c D d W) (ht : Turn S W W') (h1 : ¬ S G) (h2 : ¬ S (G + 1)) (h3 : ¬ S gx) (h4 : y.proof.length ≠ 0 -> Off S A) (h5 : y.txs.length ≠ 0 -> Off S D) : BsAt G gx b g cc b2 g2 c2 y A c D d W' := ⟨ht.blk h.kl h1, ht.blk h.kr h2, ht.blk h.kx h3, h.rp.kept2 ht h4, h.rt.kept2 ht h5⟩
theorem qi7 (x : InV) (a : InA) (y : Blo) (A : Option Addr) (c : Nat) (D : Option Addr) (d : Nat) (w : World) (hx : x.raw) (hy : y.raw) (hp : Rd tmL 10 w A y.proof) (ht : Rd txL 7 w D y.txs) (hcp : y.proof.length <= c) (hin : InAt x a w) (hT : T13 w) :
 Calls Tryz.prog 4 #[.agg (inC x a), .agg (bloC y (.slice A y.proof.length c) (.slice D y.txs.length d))] w (gives (.bool true) w) := by
 have Z := qaJ w 27 57 (inC x a) (bloC y (.slice A y.proof.length c) (.slice D y.txs.length d))
 have N0 := hid (show BwAt w x a y A c D d _ from ⟨Z.1, Z.2.1, hin.below Z.2.2, hp.below Z.2.2, ht.below Z.2.2, Z.2.2⟩)
 have HT := hid (fun w' (hb : Below w.heap.size w w') => hT.kept hb)
 have HX := hid (And.intro hx (And.intro hy hcp))
 have HOP := hid (show (y.proof.length ≠ 0 -> ∀ ad, A = some ad -> ad.block < w.heap.size) /\ (y.txs.length ≠ 0 -> ∀ ad, D = some ad -> ad.block < w.heap.size) from ⟨fun h0 ad ha => by
  obtain ⟨ad', ha', hl, _⟩ := hp 0 (by omega)
  rw [ha] at ha'
  injection ha' with ha'
  subst ha'
  exact hl, fun h0 ad ha => by
  obtain ⟨ad', ha', hl, _⟩ := ht 0 (by omega)
  rw [ha] at ha'
  injection ha' with ha'
  subst ha'
  exact hl⟩)
 obtain ⟨P0, hP0⟩ := nm (Value.slice A y.proof.length c)
 obtain ⟨T0, hT0⟩ := nm (Value.slice D y.txs.length d)
 rw [<- hP0, <- hT0]
 rw [<- hP0, <- hT0] at N0
 have HPT := hid (And.intro hP0 hT0)
 have HBX : Hid (∀ W, BwAt w x a y A c D d W -> Blk W (w.heap.size + 1) 57 (bloC y P0 T0)) := hid fun W h => by rw [hP0, hT0]; exact h.bx
 have HGR : Hid (∀ W, BwAt w x a y A c D d W -> Calls Tryz.prog 24 #[.agg (bloC y P0 T0)] W (gives (.bool (greatK y)) W)) := hid fun W h => by rw [hP0, hT0]; exact qf6 y A c D d W hy h.rp h.rt
 clear hin hT hx hy hp ht hcp Z hP0 hT0
 go_enter Tryz.func4, Tryz.ntmps4
 go_upto_region 1 with fail
 refine qab (fun w0 hw0 => ?_)
 have hA0 : BwAt w x a y A c D d w0 := by rw [hw0]; exact N0.out
 clear hw0 N0
 have hal := qjP w0 (HT.out _ hA0.bw)
 go_upto_region 3 with (first
  | (go_at_call 8; refine hal.mono ?_; unfold gives; rintro e w1 ⟨rfl, hb1⟩))
 have hA1 := hA0.below hb1
 clear hA0 hb1 hal
 have hfr := far_any x a w1 HX.out.1 hA1.hin
 rcases Bool.eq_false_or_eq_true (farV x) with hf | hf
 ·rw [hf] at hfr
  clear hf
  go_wp2_with (first
   | (refine qaa rfl _ _ rfl w.heap.size rfl _ _ _ _ hA1.bi Tryz.underlying27 rfl inInfo ?_)
   | (go_at_call 9; refine hfr.mono ?_; unfold gives; rintro e w2 ⟨rfl, hb2⟩))
  go_ret
  exact ⟨rfl, nxt hA1.bw hb2⟩
 rw [hf] at hfr
 have hwf := qmB HX.out.1 hf
 clear hf
 rcases Bool.eq_false_or_eq_true (greatK y) with hg | hg
 ·have HG2 : Hid (∀ W, BwAt w x a y A c D d W -> Calls Tryz.prog 24 #[.agg (bloC y P0 T0)] W (gives (.bool true) W)) := hid fun W h => by rw [<- hg]; exact HGR.out W h
  clear hg HGR
  go_wp2_with (first
   | (refine qaa rfl _ _ rfl w.heap.size rfl _ _ _ _ hA1.bi Tryz.underlying27 rfl inInfo ?_)
   | (go_at_call 9; refine hfr.mono ?_; unfold gives; rintro e w2 ⟨rfl, hb2⟩
      have hA2 := hA1.below hb2
      have kb2 := HBX.out _ hA2
      have hgr := HG2.out _ hA2)
   | (refine qaa rfl _ _ rfl (w.heap.size + 1) rfl _ _ _ _ kb2 Tryz.underlying57 rfl bloInfo ?_)
   | (go_at_call 24; refine hgr.mono ?_; unfold gives; rintro e w3 ⟨rfl, hb3⟩))
  go_ret
  exact ⟨rfl, nxt hA2.bw hb3⟩
 have HG2 : Hid (∀ W, BwAt w x a y A c D d W -> Calls Tryz.prog 24 #[.agg (bloC y P0 T0)] W (gives (.bool false) W)) := hid fun W h => by rw [<- hg]; exact HGR.out W h
 have hys := qeP HX.out.2.1 hg
 have HY := hid (And.intro hys.1 (And.intro hys.2.1 HX.out.2.2))
 clear hg HGR hys
 go_upto_region 5 with (first
  | (refine qaa rfl _ _ rfl w.heap.size rfl _ _ _ _ hA1.bi Tryz.underlying27 rfl inInfo ?_)
  | (go_at_call 9; refine hfr.mono ?_; unfold gives; rintro e w2 ⟨rfl, hb2⟩
     have hA2 := hA1.below hb2
     have kb2 := HBX.out _ hA2
     have hgr := HG2.out _ hA2)
  | (refine qaa rfl _ _ rfl (w.heap.size + 1) rfl _ _ _ _ kb2 Tryz.underlying57 rfl bloInfo ?_)
  | (go_at_call 24; refine hgr.mono ?_; unfold gives; rintro e w2b ⟨rfl, hb2b⟩))
 have hA2' := hA2.below hb2b
 clear hA1 hb2 hfr hA2 kb2 hgr hb2b HG2
 have hA2 := hA2'
 clear hA2'
 by_cases hn : L7.newE x.f x.bad = 0
 case neg =>
  have hL := qjp x a w2b hwf.f hwf.bad hn
  clear hn
  go_wp2_with (first
   | (refine qaa rfl _ _ rfl w.heap.size rfl _ _ _ _ hA2.bi Tryz.underlying27 rfl inInfo ?_)
   | (go_at_call 10; refine hL.mono ?_; unfold gives; rintro e w3 ⟨rfl, hb3⟩
      have Z := hid (qfj w3 none none none none none none))
   | (refine wpList_store_row rfl _ _ _ rfl w3.heap.size (lawA none none none) rfl rfl _ _ Z.out.1 lawInfo rfl (qbd _ _ _) ?_)
   | (refine wpList_store_row rfl _ _ _ rfl (w3.heap.size + 1) (lawA none none none) rfl rfl _ _ Z.out.2.1 rlawInfo rfl (qbd _ _ _) ?_))
  go_ret
  exact ⟨rfl, nxt (nxt hA2.bw hb3) Z.out.2.2.2.2⟩
 have HL := hid ((ql8 x a w2b hwf hA2.hin (HT.out _ hA2.bw) hn).mono (R' := fun e W' => ∃ b g cc b2 g2 c2 : Nat, e = .returned (.tuple #[.agg (lawA (some ⟨b, 0, none⟩) (some ⟨g, 0, none⟩) (some ⟨cc, 0, none⟩)), .agg (lawA (some ⟨b2, 0, none⟩) (some ⟨g2, 0, none⟩) (some ⟨c2, 0, none⟩)), .bool true]) /\ Six w2b (fun k => k < w2b.heap.size) b g cc b2 g2 c2 (regsV x) (regsV x) [] [] 20 W') (by
  rintro e W' (⟨h1, _⟩ | ⟨_, h⟩)
  ·exact absurd hn h1
  ·exact h))
 have hR := hid (qmc hwf hn)
 clear hn hwf
 go_upto_region 6 with (first
  | (refine qaa rfl _ _ rfl w.heap.size rfl _ _ _ _ hA2.bi Tryz.underlying27 rfl inInfo ?_)
  | (go_at_call 10; refine HL.out.mono ?_; rintro e w3 ⟨b, g, cc, b2, g2, c2, rfl, h3⟩
     have Z := hid (qfj w3 (some ⟨b, 0, none⟩) (some ⟨g, 0, none⟩) (some ⟨cc, 0, none⟩) (some ⟨b2, 0, none⟩) (some ⟨g2, 0, none⟩) (some ⟨c2, 0, none⟩)))
  | (refine wpList_store_row rfl _ _ _ rfl w3.heap.size (lawA (some ⟨b, 0, none⟩) (some ⟨g, 0, none⟩) (some ⟨cc, 0, none⟩)) rfl rfl _ _ Z.out.1 lawInfo rfl (qbd _ _ _) ?_)
  | (refine wpList_store_row rfl _ _ _ rfl (w3.heap.size + 1) (lawA (some ⟨b2, 0, none⟩) (some ⟨g2, 0, none⟩) (some ⟨c2, 0, none⟩)) rfl rfl _ _ Z.out.2.1 rlawInfo rfl (qbd _ _ _) ?_))
 refine qab (fun w8 hw8 => ?_)
 have hZ := Z.out.2.2
 rw [<- hw8] at hZ
 obtain ⟨z1, z2, z3⟩ := hZ
 have h23 := qcz (Below.refl _ w2b) (fun k hk => hk) h3.tn
 have h28 := nxt h23 z3
 have hA8 := hA2.below h28
 have h8 := qgY h3 z3 z2.lt
 have hT8 : TP (fun k => k < w2b.heap.size ∨ k = w3.heap.size ∨ k = w3.heap.size + 1) w8 := tp_mk (HT.out _ hA2.bw) h28 (fun k hk => .inl hk)
 obtain ⟨G, hG⟩ := nm (w3.heap.size)
 rw [<- hG] at h8 hT8 z1 z2 ⊢
 obtain ⟨P, hP⟩ : ∃ P : Nat -> Prop, P = fun k => k < w2b.heap.size ∨ k = G ∨ k = G + 1 := ⟨_, rfl⟩
 rw [<- hP] at h8 hT8
 have g1 := hA2.bx.lt
 have pG : P G := by rw [hP]; exact .inr (.inl rfl)
 have pG1 : P (G + 1) := by rw [hP]; exact .inr (.inr rfl)
 have pc : P (w.heap.size + 1) := by rw [hP]; exact .inl g1
 have pw : ∀ k, k < w.heap.size -> P k := fun k hk => by rw [hP]; exact .inl (by omega)
 have hB8 : BsAt G (w.heap.size + 1) b g cc b2 g2 c2 y A c D d w8 := ⟨z1, z2, hA8.bx, hA8.rp, hA8.rt⟩
 have HST : Hid (∀ (N N2 : List Int) (B : Nat) (W : World), Six w8 P b g cc b2 g2 c2 (regsV x) (regsV x) N N2 B W -> BsAt G (w.heap.size + 1) b g cc b2 g2 c2 y A c D d W /\ Below w.heap.size w W) := hid fun N N2 B W h => ⟨hB8.turn h.tn (fun k => k pG) (fun k => k pG1) (fun k => k pc) (fun h0 ad ha hn => hn (pw _ (HOP.out.1 h0 ad ha))) (fun h0 ad ha hn => hn (pw _ (HOP.out.2 h0 ad ha))), qcz hA8.bw pw h.tn⟩
 have HNM : Hid (∀ (N N2 : List Int) (B : Nat) (W : World), Six w8 P b g cc b2 g2 c2 (regsV x) (regsV x) N N2 B W -> Calls Tryz.prog 25 #[.agg (lawA (some ⟨b, 0, none⟩) (some ⟨g, 0, none⟩) (some ⟨cc, 0, none⟩)), .agg (bloC y P0 T0)] W (gives (.tuple #[.int .i64 (nbrV (regsV x).K y).1, .int .i64 (nbrV (regsV x).K y).2]) W)) := hid fun N N2 B W h => by
  rw [HPT.out.1, HPT.out.2]
  exact qks h hT8 y _ _ HY.out.1 ⟨A, c, D, d, rfl, rfl, (HST.out _ _ _ _ h).1.rp, (HST.out _ _ _ _ h).1.rt⟩
 have HRN : Hid (∀ (N N2 : List Int) (B : Nat) (W : World), Six w8 P b g cc b2 g2 c2 (regsV x) (regsV x) N N2 B W -> Calls Tryz.prog 26 #[.agg (lawA (some ⟨b2, 0, none⟩) (some ⟨g2, 0, none⟩) (some ⟨c2, 0, none⟩)), .agg (bloC y P0 T0)] W (gives (.tuple #[.int .i64 (nbrV (regsV x).K y).1, .int .i64 (nbrV (regsV x).K y).2]) W)) := hid fun N N2 B W h => by
  rw [HPT.out.1, HPT.out.2]
  exact qig h hR.out y A c D d HY.out.1 (HST.out _ _ _ _ h).1.rp (HST.out _ _ _ _ h).1.rt
 have HBL : Hid (∀ (W : World), Six w8 P b g cc b2 g2 c2 (regsV x) (regsV x) [] [] 20 W -> Calls Tryz.prog 27 #[.agg (lawA (some ⟨b, 0, none⟩) (some ⟨g, 0, none⟩) (some ⟨cc, 0, none⟩)), .agg (bloC y P0 T0)] W fun e W' => e = .returned (.tuple #[.int .i64 (blkE (regsV x) y).1, .int .i64 (blkE (regsV x) y).2]) /\ ∃ N' B', Six w8 P b g cc b2 g2 c2 (regsV x) (regsV x) N' [] B' W') := hid fun W h => by
  rw [HPT.out.1, HPT.out.2]
  refine (qlI h hT8 hR.out y A c D d (by have := HY.out.2.1; omega) HY.out.1 (HST.out _ _ _ _ h).1.rp (HST.out _ _ _ _ h).1.rt HY.out.2.2 (fun h0 ad ha => pw _ (HOP.out.1 h0 ad ha))).mono ?_
  rintro e W' ⟨he, N', hs⟩
  exact ⟨he, N', _, hs⟩
 have HRB : Hid (∀ (N : List Int) (B : Nat) (W : World), Six w8 P b g cc b2 g2 c2 (regsV x) (regsV x) N [] B W -> Calls Tryz.prog 28 #[.agg (lawA (some ⟨b2, 0, none⟩) (some ⟨g2, 0, none⟩) (some ⟨c2, 0, none⟩)), .agg (bloC y P0 T0)] W fun e W' => e = .returned (.tuple #[.int .i64 (blkE (regsV x) y).1, .int .i64 (blkE (regsV x) y).2]) /\ Below w.heap.size w W') := hid fun N B W h => by
  rw [HPT.out.1, HPT.out.2]
  refine (six_rblk h hR.out y A c D d (by decide) HY.out.1 (HST.out _ _ _ _ h).1.rp (HST.out _ _ _ _ h).1.rt (fun h0 ad ha => pw _ (HOP.out.1 h0 ad ha))).mono ?_
  rintro e W' ⟨he, N', hs⟩
  exact ⟨he, (HST.out _ _ _ _ hs).2⟩
 have HKX : Hid (∀ (N N2 : List Int) (B : Nat) (W : World), Six w8 P b g cc b2 g2 c2 (regsV x) (regsV x) N N2 B W -> Blk W G 39 (lawA (some ⟨b, 0, none⟩) (some ⟨g, 0, none⟩) (some ⟨cc, 0, none⟩)) /\ Blk W (G + 1) 44 (lawA (some ⟨b2, 0, none⟩) (some ⟨g2, 0, none⟩) (some ⟨c2, 0, none⟩)) /\ Blk W (w.heap.size + 1) 57 (bloC y P0 T0)) := hid fun N N2 B W h => by
  have k := (HST.out _ _ _ _ h).1
  exact ⟨k.kl, k.kr, by rw [HPT.out.1, HPT.out.2]; exact k.kx⟩
 obtain ⟨z, hz⟩ := nm (nbrV (regsV x).K y)
 obtain ⟨r, hr⟩ := nm (blkE (regsV x) y)
 rw [<- hz] at HNM HRN
 rw [<- hr] at HBL HRB
 clear hz hr hw8 z1 z2 z3 Z HL h3 h23 h28 hT8 pG pG1 pc pw hP hG g1 hA2 hA8 hB8 HST HBX HPT HOP HX HT hR HY
 obtain ⟨n, e0⟩ := z
 obtain ⟨m, e1⟩ := r
 have hk8 := HKX.out _ _ _ _ h8
 have hc8 := HNM.out _ _ _ _ h8
 (try dsimp only at hc8)
 go_upto_region 9 with (first
  | (refine qaa rfl _ _ rfl G rfl _ _ _ _ hk8.1 Tryz.underlying39 rfl lawInfo ?_)
  | (refine qaa rfl _ _ rfl (w.heap.size + 1) rfl _ _ _ _ hk8.2.2 Tryz.underlying57 rfl bloInfo ?_)
  | (go_at_call 25; refine hc8.mono ?_; unfold gives; rintro e w9 ⟨rfl, hb9⟩))
 have h9 := h8.below hb9
 have hk9 := HKX.out _ _ _ _ h9
 have hc9 := HRN.out _ _ _ _ h9
 (try dsimp only at hc9)
 clear h8 hb9 hk8 hc8 HNM HRN
 go_upto_region 10 with (first
  | (refine qaa rfl _ _ rfl (G + 1) rfl _ _ _ _ hk9.2.1 Tryz.underlying44 rfl rlawInfo ?_)
  | (refine qaa rfl _ _ rfl (w.heap.size + 1) rfl _ _ _ _ hk9.2.2 Tryz.underlying57 rfl bloInfo ?_)
  | (go_at_call 26; refine hc9.mono ?_; unfold gives; rintro e w10 ⟨rfl, hb10⟩))
 have h10 := h9.below hb10
 have hk10 := HKX.out _ _ _ _ h10
 have hc10 := HBL.out _ h10
 (try dsimp only at hc10)
 clear h9 hb10 hk9 hc9 HBL
 go_upto_region 13 with (first
  | (refine qaa rfl _ _ rfl G rfl _ _ _ _ hk10.1 Tryz.underlying39 rfl lawInfo ?_)
  | (refine qaa rfl _ _ rfl (w.heap.size + 1) rfl _ _ _ _ hk10.2.2 Tryz.underlying57 rfl bloInfo ?_)
  | (go_at_call 27; refine hc10.mono ?_; rintro e w11 ⟨rfl, N', B', h11⟩))
 have hk11 := HKX.out _ _ _ _ h11
 have hc11 := HRB.out _ _ _ h11
 (try dsimp only at hc11)
 clear h10 hk10 hc10 HRB HKX h11
 go_wp2_with (first
  | (refine qaa rfl _ _ rfl (G + 1) rfl _ _ _ _ hk11.2.1 Tryz.underlying44 rfl rlawInfo ?_)
  | (refine qaa rfl _ _ rfl (w.heap.size + 1) rfl _ _ _ _ hk11.2.2 Tryz.underlying57 rfl bloInfo ?_)
  | (go_at_call 28; refine hc11.mono ?_; rintro e w12 ⟨rfl, hb12⟩))
 go_ret
 exact ⟨rfl, hb12⟩
end Go.Proofs.YtomaaidhmccngaaGreatDoor
