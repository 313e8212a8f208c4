import Derived.Test.YtomaaidhmccngaaGreatDoorV3
set_option linter.unusedSimpArgs false
set_option linter.unusedVariables false
set_option maxRecDepth 100000
set_option maxHeartbeats 16000000
namespace Go.Proofs.YtomaaidhmccngaaGreatDoor
open Go.RowKit Go.Maps Go.Lib
open L7 (Shr)
open L11 (Crt zeroC)
open L4 (bts cnt)
abbrev exV : Blo := ⟨1, 1, 0, 1, zeroC, [], []⟩
abbrev exC1 : Crt := ⟨1, 1, 1, 1, 0, 0, 7, 0⟩
abbrev exC2 : Crt := ⟨1, 2, 1, 1, 0, 0, 7, 0⟩
abbrev exVt : L7.Stm := ⟨2, 1, 1, 1, 0, 0, 0, 0, 0, 0⟩
abbrev exPr : L7.Stm := ⟨1, 1, 1, 1, 0, 1, 0, 0, 0, 0⟩
abbrev exS : List Shr := [⟨0, exVt⟩, ⟨1, exVt⟩, ⟨2, exVt⟩, ⟨1, exPr⟩]
abbrev exI : InV := ⟨1, 0, [⟨exV, none, 0, none, 0⟩], [], exS, []⟩
theorem qcP : checkV exV = 0 := by decide +kernel
theorem exV_wf : exV.wf := qhf qcP
theorem ex_inI (n : Int) (h0 : 0 <= n) (h1 : n <= 100) : L7.inI n := ⟨by omega, by omega⟩
theorem exS_wf : ∀ x ∈ exS, x.wf := by
 intro x hx
 simp only [exS, List.mem_cons, List.not_mem_nil, or_false] at hx
 rcases hx with rfl | rfl | rfl | rfl
 all_goals (refine ⟨?_, ?_, ?_, ?_, ?_, ?_, ?_, ?_, ?_, ?_, ?_⟩ <;> exact ex_inI _ (by decide) (by decide))
theorem exI_wf : exI.wf := by
 refine ⟨⟨by decide, by decide⟩, by decide, fun y hy => ?_, fun s hs => (by cases hs), exS_wf, fun y hy => (by cases hy), by decide, by decide, by decide, by decide⟩
 rw [List.mem_singleton] at hy
 rw [hy]
 exact exV_wf
theorem cnt_0' : cnt 0 = 0 := by rw [<- L4.qaP 0 0, L4.qcr]; rfl
theorem ql4 : L7.newE exI.f exI.bad = 0 := by unfold L7.newE; rw [cnt_0']; decide +kernel
theorem exK : bookC (bookB [] exI.bs) exI.cs = [str (bytesB exV)] := by
 show bookC (bookB [] [⟨exV, none, 0, none, 0⟩]) [] = _
 unfold bookC bookB
 simp only [List.foldl_cons, List.foldl_nil]
 rw [if_pos qcP]
 unfold L5.enterL
 rw [if_neg (by rw [qa4]; have := qdg qcP; omega)]
 rfl
theorem exL : shsF 1 [] exS = exS := by decide +kernel
theorem exR : regsV exI = ⟨[str (bytesB exV)], 1, 0, exS, []⟩ := by
 unfold regsV
 rw [exK]
 show (⟨_, 1, 0, shsF 1 [] exS, gsF 1 [] []⟩ : Regs) = _
 rw [exL]
 rfl
theorem ex_cont : contV [str (bytesB exV)] 1 = (exV, 0) := by
 unfold contV
 rw [if_neg (by decide)]
 have h : L5.contS [str (bytesB exV)] 1 = str (bytesB exV) := rfl
 rw [h]
 have h2 : (str (bytesB exV)).data.toList = bytesB exV := rfl
 rw [h2, qkw exV qcP]
 rfl
theorem ex_cont2 : contV [str (bytesB exV)] 2 = (zeroB, 50) := by
 unfold contV
 rw [if_pos (by decide)]
theorem bts_7 : bts 0 7 = [0, 1, 2] := by rw [L4.qbL, L4.qbL, L4.qbL, L4.qcr]; rfl
theorem cnt_7 : cnt 7 = 3 := by rw [<- L4.qaP 7 0, bts_7]; rfl
theorem ex_sig : sigE (regsV exI) exC1 = 0 := by
 rw [exR]
 unfold sigE L7.enoughE L7.allE
 rw [bts_7, cnt_7]
 decide +kernel
theorem ex_cert : certE (regsV exI) exC1 = 0 := by
 have h1 : fitE (regsV exI) exC1 = 0 := by
  rw [exR]
  unfold fitE
  show (if (contV [str (bytesB exV)] 1).2 ≠ 0 then (contV [str (bytesB exV)] 1).2 else if fitsV exC1 (contV [str (bytesB exV)] 1).1 = true then (0 : Int) else 110) = 0
  rw [ex_cont]
  decide +kernel
 unfold certE
 rw [h1, ex_sig]
 decide +kernel
theorem ex_cert2 : certE (regsV exI) exC2 = 50 := by
 have h1 : fitE (regsV exI) exC2 = 50 := by
  rw [exR]
  unfold fitE
  show (if (contV [str (bytesB exV)] 2).2 ≠ 0 then (contV [str (bytesB exV)] 2).2 else if fitsV exC2 (contV [str (bytesB exV)] 2).1 = true then (0 : Int) else 110) = 50
  rw [ex_cont2]
  decide +kernel
 unfold certE
 rw [h1]
 decide +kernel
theorem ex_blk : blkE (regsV exI) exV = (1, 0) := by
 have h1 : nbrV (regsV exI).K exV = (1, 0) := by
  rw [exR]
  unfold nbrV
  rw [if_neg (by simpa using qcP)]
  have h : L5.idx [str (bytesB exV)] (str (bytesB exV)) = 1 := by unfold L5.idx L5.idxFrom; simp
  show (if L5.idx [str (bytesB exV)] (str (bytesB exV)) = 0 then ((0 : Int), (50 : Int)) else ((L5.idx [str (bytesB exV)] (str (bytesB exV)) : Nat), 0)) = (1, 0)
  rw [h]
  rfl
 have h2 : restE (regsV exI) 1 exV = 0 := by
  have a1 : allowE (regsV exI) exV = 0 := by rw [exR]; decide +kernel
  have a2 : autE (regsV exI) 1 exV = 0 := by rw [exR]; decide +kernel
  have a3 : certE (regsV exI) exV.par = 0 := by unfold certE; decide +kernel
  have a4 : provE (regsV exI) exV = 0 := by unfold provE; rw [if_pos (by decide)]
  unfold restE
  rw [a1, a2, a3, a4]
  decide
 unfold blkE
 rw [h1]
 dsimp only
 rw [h2]
 rfl
end Go.Proofs.YtomaaidhmccngaaGreatDoor
namespace Go.Proofs.YtomaaidhmccngaaGreatDoor
open Go.RowKit Go.Maps Go.Lib
open L3 (Blk Reads)
open L6 (Turn)
open L11 (Crt crtC)
open L7 (Shr shrC)
def TP (P : Nat -> Prop) (w : World) : Prop := ∀ W, Turn (fun k => ¬ P k) w W -> T13 W
section
variable {P : Nat -> Prop} {b g c b2 g2 c2 : Nat} {R R2 : Regs} {N N2 : List Int} {B : Nat} {w W W' : World}
theorem qdZ {U V : Nat -> Prop} {N' : List Int} {B' : Nat} (h1 : Trio U b g c R N B W) (h2 : RTrio V b2 g2 c2 R2 N2 W) (h3 : L6.Apart U V) (h4 : ∀ k, U k -> ¬ P k) (h5 : ∀ k, V k -> ¬ P k) (hp : ∀ k, P k -> k < w.heap.size) (ht : Turn (fun k => ¬ P k) w W) (hR : Rch W U b g c R N' B' W') : Six w P b g c b2 g2 c2 R R2 N' N2 B' W' := by
 obtain ⟨⟨U', hU', hs⟩, hT⟩ := hR
 refine ⟨⟨U', V, hU', h2.turn hT (fun k hk hU => h3 k hU hk), fun k hk hV => ?_, fun k hk hP => ?_, h5⟩, hp, qbY ht h4 hT⟩
 ·rcases hs k hk with h | h
  ·exact h3 k h hV
  ·have := h2.inV k hV; omega
 ·rcases hs k hk with h | h
  ·exact h4 k h hP
  ·have := hp k hP
   have := ht.size
   omega
theorem qgK (h : Six w P b g c b2 g2 c2 R R2 N N2 B W) (hT : TP P w) (hw : R.wf) (hB : B <= 1000000) (x : Crt) (hx : x.wf) :
 Calls Tryz.prog 11 #[.agg (lawA (some ⟨b, 0, none⟩) (some ⟨g, 0, none⟩) (some ⟨c, 0, none⟩)), .agg (crtC x)] W fun e W' => e = .returned (.int .i64 (certE R x)) /\ Six w P b g c b2 g2 c2 R R2 (certN R N x) N2 (B + 1) W' := by
 obtain ⟨⟨U, V, h1, h2, h3, h4, h5⟩, hp, ht⟩ := h
 refine (qgo x W h1 hw hB hx (hT W ht)).mono ?_
 rintro e W' ⟨rfl, hR⟩
 exact ⟨rfl, qdZ h1 h2 h3 h4 h5 hp ht hR⟩
theorem six_TT {U : Nat -> Prop} (hT : TP P w) (ht : Turn (fun k => ¬ P k) w W) (h4 : ∀ k, U k -> ¬ P k) : TT U W := fun W' hW => hT W' (qbY ht h4 hW)
theorem six_blk (h : Six w P b g c b2 g2 c2 R R2 N N2 B W) (hT : TP P w) (hw : R.wf) (x : Blo) (A : Option Addr) (cp : Nat) (D : Option Addr) (d : Nat) (hB : B + 1 + x.proof.length <= 1000000) (hx : x.wf) (hp : Rd tmL 10 W A x.proof) (ht : Rd txL 7 W D x.txs) (hcp : x.proof.length <= cp) (ho : x.proof.length ≠ 0 -> ∀ ad, A = some ad -> P ad.block) :
 Calls Tryz.prog 27 #[.agg (lawA (some ⟨b, 0, none⟩) (some ⟨g, 0, none⟩) (some ⟨c, 0, none⟩)), .agg (bloC x (.slice A x.proof.length cp) (.slice D x.txs.length d))] W fun e W' =>
  e = .returned (.tuple #[.int .i64 (blkE R x).1, .int .i64 (blkE R x).2]) /\ ∃ N', Six w P b g c b2 g2 c2 R R2 N' N2 (B + 1 + x.proof.length) W' := by
 obtain ⟨⟨U, V, h1, h2, h3, h4, h5⟩, hP, hTn⟩ := h
 refine (blk_any x A cp D d W h1 hw hB hx hp ht hcp (six_TT hT hTn h4) (fun h0 ad ha hU => h4 _ hU (ho h0 ad ha))).mono ?_
 rintro e W' ⟨rfl, N', hR⟩
 exact ⟨rfl, N', qdZ h1 h2 h3 h4 h5 hP hTn hR⟩
theorem six_tim (h : Six w P b g c b2 g2 c2 R R2 N N2 B W) (hT : TP P w) (hw : R.wf) (hB : B <= 1000000) (x : Tmo) (hx : x.wf) :
 Calls Tryz.prog 13 #[.agg (lawA (some ⟨b, 0, none⟩) (some ⟨g, 0, none⟩) (some ⟨c, 0, none⟩)), .agg (tmC x)] W fun e W' => e = .returned (.int .i64 (timE R x)) /\ Six w P b g c b2 g2 c2 R R2 (timN R N x) N2 (B + 1) W' := by
 obtain ⟨⟨U, V, h1, h2, h3, h4, h5⟩, hp, ht⟩ := h
 refine (qmP x W h1 hw hB hx (hT W ht)).mono ?_
 rintro e W' ⟨rfl, hR⟩
 exact ⟨rfl, qdZ h1 h2 h3 h4 h5 hp ht hR⟩
theorem six_pro (h : Six w P b g c b2 g2 c2 R R2 N N2 B W) (hT : TP P w) (hw : R.wf) (v : Int) (A : Option Addr) (cp : Nat) (p : List Tmo) (hB : B + p.length <= 1000000) (hp : Rd tmL 10 W A p) (hwf : ∀ t ∈ p, t.wf) (ho : p.length ≠ 0 -> ∀ ad, A = some ad -> P ad.block) :
 Calls Tryz.prog 15 #[.agg (lawA (some ⟨b, 0, none⟩) (some ⟨g, 0, none⟩) (some ⟨c, 0, none⟩)), .int .i64 v, .slice A p.length cp] W fun e W' => e = .returned (.int .i64 (proE R v p)) /\ Six w P b g c b2 g2 c2 R R2 (proN R N v p) N2 (B + p.length) W' := by
 obtain ⟨⟨U, V, h1, h2, h3, h4, h5⟩, hP, hTn⟩ := h
 refine (qmh W v A cp p h1 hw hB hp hwf (six_TT hT hTn h4) (fun h0 ad ha hU => h4 _ hU (ho h0 ad ha))).mono ?_
 rintro e W' ⟨q, rfl, rfl, hR⟩
 exact ⟨rfl, qdZ h1 h2 h3 h4 h5 hP hTn hR⟩
theorem Six.rebase {w5 : World} {P' : Nat -> Prop} (h : Six w P b g c b2 g2 c2 R R2 N N2 B W) (hb : Below W.heap.size W w5) (hP : ∀ k, P' k -> P k ∨ W.heap.size <= k) (hl : ∀ k, P' k -> k < w5.heap.size) : Six w5 P' b g c b2 g2 c2 R R2 N N2 B w5 := by
 obtain ⟨⟨U, V, h1, h2, h3, h4, h5⟩, hp, ht⟩ := h
 refine ⟨⟨U, V, h1.below hb, h2.below hb, h3, fun k hk hk' => ?_, fun k hk hk' => ?_⟩, hl, Turn.refl _ _⟩
 ·rcases hP k hk' with h | h
  ·exact h4 k hk h
  ·have := h1.inU k hk; omega
 ·rcases hP k hk' with h | h
  ·exact h5 k hk h
  ·have := h2.inV k hk; omega
end
theorem tp_mk {w0 w : World} {P : Nat -> Prop} (h : T13 w0) (hb : Below w0.heap.size w0 w) (hP : ∀ k, k < w0.heap.size -> P k) : TP P w := fun W ht =>
 h.kept ⟨ht.os.trans hb.os, ht.tape.trans hb.tape, ht.output.trans hb.output, Nat.le_trans hb.size ht.size, fun k hk => (ht.block k (Nat.lt_of_lt_of_le hk hb.size) (fun hn => hn (hP k hk))).trans (hb.block k hk)⟩
theorem qc1 {w0 w W : World} {P : Nat -> Prop} (hb : Below w0.heap.size w0 w) (hP : ∀ k, k < w0.heap.size -> P k) (ht : Turn (fun k => ¬ P k) w W) : Below w0.heap.size w0 W :=
 ⟨ht.os.trans hb.os, ht.tape.trans hb.tape, ht.output.trans hb.output, Nat.le_trans hb.size ht.size, fun k hk => (ht.block k (Nat.lt_of_lt_of_le hk hb.size) (fun hn => hn (hP k hk))).trans (hb.block k hk)⟩
end Go.Proofs.YtomaaidhmccngaaGreatDoor
namespace Go.Proofs.YtomaaidhmccngaaGreatDoor
open Go.RowKit Go.Maps Go.Lib
open L3 (Blk Reads)
open L6 (Turn)
open L7 (Shr shrC shrL stmC shrs)
open L11 (Crt zeroC crtC)
abbrev nilS : Value := .slice none 0 0
def inD (gs : Nat) (v : Value) : Array Value := #[.int .i64 1, .int .u32 0, .slice (some ⟨gs, 0, none⟩) 1 1, nilS, v, nilS]
structure AvAt (w : World) (gb gc gs gi : Nat) (v : Value) (k : Nat) (W : World) : Prop where
 bb : Blk W gb 57 (bloC exV nilS nilS)
 bc : Blk W gc 29 (crtC exC1)
 bs : Blk W gs 57 (bloC exV nilS nilS)
 bi : Blk W gi 27 (inD gs v)
 row : W.ownsRow (gi + 1) 75 11 v k (shrs (exS.take k))
 bw : Below w.heap.size w W
 o1 : w.heap.size <= gb
 o2 : gb < gc
 o3 : gc < gs
 o4 : gs < gi
theorem AvAt.next {w W W5 w4 : World} {gb gc gs gi : Nat} {v v4 : Value} {k : Nat} (h : AvAt w gb gc gs gi v k W) (hb : Below W.heap.size W W5) (hrow : w4.ownsRow (gi + 1) 75 11 v4 (k + 1) (shrs (exS.take (k + 1)))) (hg : W5.grownBy w4 v.ownBlock) : AvAt w gb gc gs gi v4 (k + 1) (w4.setCell ⟨gi, 4, none⟩ v4) := by
 have o1 := h.o1
 have o2 := h.o2
 have o3 := h.o3
 have o4 := h.o4
 have hv : ∀ i, i < gi + 1 -> v.ownBlock ≠ some i := fun i hi e => by have := (h.row.lt i e).1; omega
 have ht : Turn (fun i => v.ownBlock = some i) W5 w4 := L6.Turn.of_grown hg (fun i e => e)
 have hs : Turn (fun i => i = gi) w4 (w4.setCell ⟨gi, 4, none⟩ v4) := Turn.setCell (S := fun i => i = gi) (Turn.refl _ w4) (p := ⟨gi, 4, none⟩) (.inl rfl) v4
 have hbw : Below w.heap.size w w4 := by
  have h5 := nxt h.bw hb
  exact h5.trans (ht.below (B := w.heap.size) (fun i hi => by have := (h.row.lt i hi).1; omega) h5.size)
 refine ⟨hs.blk (ht.blk (h.bb.below hb h.bb.lt) (hv _ (by omega))) (by omega), hs.blk (ht.blk (h.bc.below hb h.bc.lt) (hv _ (by omega))) (by omega), hs.blk (ht.blk (h.bs.below hb h.bs.lt) (hv _ (by omega))) (by omega), (ht.blk (h.bi.below hb h.bi.lt) (hv _ (by omega))).set_ 4 v4, hs.row hrow (fun i hi => by have := (hrow.lt i hi).1; omega), ?_, o1, o2, o3, o4⟩
 exact hbw.trans (hs.below (B := w.heap.size) (fun i hi => by omega) hbw.size)
theorem qla (w : World) : (Instr.build 57 #[(0, .int .i64 1), (1, .int .i64 1), (3, .int .i64 1)]).run Tryz.prog w = .ok (.agg (bloC exV nilS nilS)) w := run_build w _ _ _ (by kernel_rfl)
theorem qkY (w : World) : (Instr.build 29 #[(0, .int .i64 1), (1, .int .i64 1), (2, .int .i64 1), (3, .int .i64 1), (6, .int .u32 7)]).run Tryz.prog w = .ok (.agg (crtC exC1)) w := run_build w _ _ _ (by kernel_rfl)
theorem qmB (b : Blo) (P T : Value) (w : World) : (Instr.buildSlice 23 1 #[(0, .agg (bloC b P T))]).run Tryz.prog w = .ok (.slice (some ⟨w.heap.size, 0, none⟩) 1 1) (w.alloc (.cells (bloC b P T) 57)) := by kernel_rfl
theorem qkZ (n : Nat) (w : World) : (Instr.build 27 #[(0, .int .i64 1), (2, .slice (some ⟨n, 0, none⟩) 1 1)]).run Tryz.prog w = .ok (.agg (inD n nilS)) w := run_build w _ _ _ (by kernel_rfl)
theorem qjN (w : World) : (Instr.build 73 #[(0, .int .i64 2), (1, .int .i64 1), (2, .int .i64 1), (3, .int .i64 1)]).run Tryz.prog w = .ok (.agg (stmC exVt)) w := run_build w _ _ _ (by kernel_rfl)
theorem qjM (w : World) : (Instr.build 73 #[(0, .int .i64 1), (1, .int .i64 1), (2, .int .i64 1), (3, .int .i64 1), (5, .int .i64 1)]).run Tryz.prog w = .ok (.agg (stmC exPr)) w := run_build w _ _ _ (by kernel_rfl)
theorem qm6 : ∃ i : TypeInfo, Tryz.prog.info? 75 = some i /\ i.zero = some (.agg #[.int .i64 0, .int .i64 0, .int .i64 0, .int .i64 0, .int .i64 0, .int .i64 0, .int .i64 0, .int .i64 0, .int .i64 0, .int .i64 0, .int .i64 0]) /\ i.size = 11 /\ i.bytes = 88 := info_parts L7.shrInfo
theorem exS_snoc {k : Nat} (hk : k < 3) : shrs (exS.take k) ++ shrL ⟨k, exVt⟩ = shrs (exS.take (k + 1)) := by
 obtain rfl | rfl | rfl : k = 0 ∨ k = 1 ∨ k = 2 := by omega
 all_goals rfl
theorem exS_last : shrs (exS.take 3) ++ shrL ⟨1, exPr⟩ = shrs (exS.take 4) := rfl
theorem exI_at {w W : World} {gb gc gs gi n4 : Nat} {A4 : Option Addr} (h : AvAt w gb gc gs gi (.slice A4 4 n4) 4 W) : InAt exI ⟨some ⟨gs, 0, none⟩, 1, none, 0, A4, n4, none, 0⟩ W := by
 refine ⟨fun i hi => ?_, fun y hy => ?_, fun y hy => ?_, Rd.nil, ?_, Rd.nil⟩
 ·have hi1 : i < 1 := hi
  obtain rfl : i = 0 := by omega
  refine ⟨_, rfl, h.bs.lt, fun j u hj => ?_⟩
  have h2 := h.bs.cell j
  have e : ((⟨gs, 0, none⟩ : Addr).add (0 * 14)).add j = ⟨gs, j, none⟩ := by unfold Addr.add; split <;> simp_all
  rw [e, h2, <- Array.getElem?_toList]
  exact hj
 ·simp only [List.mem_singleton] at hy
  rw [hy]
  exact Rd.nil
 ·simp only [List.mem_singleton] at hy
  rw [hy]
  exact Rd.nil
 ·obtain ⟨A, c, hv, hr, _⟩ := Rd.of_row (L := exS) (f := shrL) (k := 11) (fun _ => rfl) h.row
  injection hv with hA _ hc
  subst hA
  exact hr
theorem qfe (w : World) (l l2 l3 m m2 m3 : Option Addr) :
 Blk ((w.alloc (.cells (lawA none none none) 39)).alloc (.cells (lawA none none none) 44)) w.heap.size 39 (lawA none none none) /\
 Blk (((w.alloc (.cells (lawA none none none) 39)).alloc (.cells (lawA none none none) 44)).setRow w.heap.size (lawA l l2 l3)) (w.heap.size + 1) 44 (lawA none none none) /\
 Blk ((((w.alloc (.cells (lawA none none none) 39)).alloc (.cells (lawA none none none) 44)).setRow w.heap.size (lawA l l2 l3)).setRow (w.heap.size + 1) (lawA m m2 m3)) w.heap.size 39 (lawA l l2 l3) /\
 Blk ((((w.alloc (.cells (lawA none none none) 39)).alloc (.cells (lawA none none none) 44)).setRow w.heap.size (lawA l l2 l3)).setRow (w.heap.size + 1) (lawA m m2 m3)) (w.heap.size + 1) 44 (lawA m m2 m3) /\
 Below w.heap.size w ((((w.alloc (.cells (lawA none none none) 39)).alloc (.cells (lawA none none none) 44)).setRow w.heap.size (lawA l l2 l3)).setRow (w.heap.size + 1) (lawA m m2 m3)) := by
 obtain ⟨h1, h2, h3⟩ := qaO w 39 44 (lawA none none none) (lawA none none none)
 have h4 := (qaB ((w.alloc (.cells (lawA none none none) 39)).alloc (.cells (lawA none none none) 44)) w.heap.size (lawA l l2 l3)).blk h2 (by omega)
 exact ⟨h1, h4, (qaB _ (w.heap.size + 1) (lawA m m2 m3)).blk (qac h1) (by omega), qac h4, below_setRow (below_setRow h3 (Nat.le_refl _)) (Nat.le_succ _)⟩
theorem qhT {w W W' : World} {b g c b2 g2 c2 : Nat} {R R2 : Regs} {N N2 : List Int} {B : Nat} (h : Six w (fun k => k < w.heap.size) b g c b2 g2 c2 R R2 N N2 B W) (hb : Below W.heap.size W W') (hl : W.heap.size + 1 < W'.heap.size) :
 Six W' (fun k => k < w.heap.size ∨ k = W.heap.size ∨ k = W.heap.size + 1) b g c b2 g2 c2 R R2 N N2 B W' := by
 have h1 := h.tn.size
 refine h.rebase hb (fun k hk => ?_) (fun k hk => ?_)
 ·rcases hk with hk | rfl | rfl
  ·exact .inl hk
  ·exact .inr (Nat.le_refl _)
  ·exact .inr (Nat.le_succ _)
 ·rcases hk with hk | rfl | rfl <;> omega
theorem Six.struck {w W : World} {P : Nat -> Prop} {b g c b2 g2 c2 : Nat} {R R2 : Regs} {N N2 : List Int} {B : Nat} (h : Six w P b g c b2 g2 c2 R R2 N N2 B W) {q : Nat} (hq : P q) (ad : Addr) (ha : ad.block = q) (v : Value) :
 Six (W.setCell ad v) P b g c b2 g2 c2 R R2 N N2 B (W.setCell ad v) := by
 obtain ⟨⟨U, V, h1, h2, h3, h4, h5⟩, hp, ht⟩ := h
 have hs : Turn (fun i => i = q) W (W.setCell ad v) := Turn.setCell (S := fun i => i = q) (Turn.refl _ W) (p := ad) (.inl ha) v
 exact ⟨⟨U, V, h1.turn hs (fun k hk e => h4 k hk (e ▸ hq)), h2.turn hs (fun k hk e => h5 k hk (e ▸ hq)), h3, h4, h5⟩, fun k hk => Nat.lt_of_lt_of_le (hp k hk) (Nat.le_trans ht.size hs.size), Turn.refl _ _⟩
theorem qjG (w : World) (hT : T13 w) : Calls Tryz.prog 8 #[] w (gives (.bool true) w) := by
 have HT := hid hT
 obtain ⟨i0, hi, hz0, hz1, hz2⟩ := qm6
 clear hT
 go_enter Tryz.func8, Tryz.ntmps8
 have hb1 := qae w (.cells (bloC exV nilS nilS) 57)
 have hx1 := qby w 57 exV nilS nilS
 go_upto_region 2 with (first
  | (refine wpList_build rfl _ _ rfl #[(0, .int .i64 1), (1, .int .i64 1), (3, .int .i64 1)] rfl (qla _) ?_)
  | (refine qaf rfl _ _ _ rfl w (bloC exV nilS nilS) rfl rfl _ _ bloInfo rfl (qaR _ _ _ _ _ _ _) ?_))
 refine qab (fun w1 hw1 => ?_)
 rw [<- hw1] at hb1 hx1
 clear hw1
 have hb2 := qae w1 (.cells (crtC exC1) 29)
 have hc2 : Blk (w1.alloc (.cells (crtC exC1) 29)) w1.heap.size 29 (crtC exC1) := Blk.new _ _ _
 have hx2 := hx1.below hb2 hx1.lt
 have hw2 := nxt hb1 hb2
 have o2 := hx1.lt
 go_upto_region 3 with (first
  | (refine wpList_build rfl _ _ rfl #[(0, .int .i64 1), (1, .int .i64 1), (2, .int .i64 1), (3, .int .i64 1), (6, .int .u32 7)] rfl (qkY _) ?_)
  | (refine qaf rfl _ _ _ rfl w1 (crtC exC1) rfl rfl _ _ L11.crtInfo rfl (L11.qal _) ?_))
 obtain ⟨gc, hgc⟩ := nm (w1.heap.size)
 rw [<- hgc] at hc2 o2
 rw [<- hgc]
 refine qab (fun w2 hw2' => ?_)
 rw [<- hw2'] at hc2 hx2 hw2
 clear hw2' hgc hb1 hb2 hx1
 have o3 := hc2.lt
 have Z := qaO w2 57 27 (bloC exV nilS nilS) #[.int .i64 0, .int .u32 0, nilS, nilS, nilS, nilS]
 have zi := Z.2.1
 have HA : Hid (AvAt w w.heap.size gc w2.heap.size (w2.heap.size + 1) nilS 0 (((w2.alloc (.cells (bloC exV nilS nilS) 57)).alloc (.cells #[.int .i64 0, .int .u32 0, nilS, nilS, nilS, nilS] 27)).setRow (w2.heap.size + 1) (inD w2.heap.size nilS))) := by
  have tr := qaB ((w2.alloc (.cells (bloC exV nilS nilS) 57)).alloc (.cells #[.int .i64 0, .int .u32 0, nilS, nilS, nilS, nilS] 27)) (w2.heap.size + 1) (inD w2.heap.size nilS)
  have hlt := hx2.lt
  exact hid ⟨tr.blk (hx2.below Z.2.2 hx2.lt) (by omega), tr.blk (hc2.below Z.2.2 hc2.lt) (by omega), tr.blk Z.1 (by omega), qac zi, ⟨rfl, .inl ⟨rfl, rfl⟩⟩, below_setRow (nxt hw2 Z.2.2) (by omega), Nat.le_refl _, o2, o3, by omega⟩
 clear Z
 go_upto_region 4 with (first
  | (refine qaa rfl _ _ rfl w.heap.size rfl _ _ _ _ hx2 Tryz.underlying57 rfl bloInfo ?_)
  | (refine wpList_buildSlice rfl _ _ _ rfl #[(0, .agg (bloC exV nilS nilS))] rfl (qmB exV nilS nilS _) ?_)
  | (refine wpList_build rfl _ _ rfl #[(0, .int .i64 1), (2, .slice (some ⟨w2.heap.size, 0, none⟩) 1 1)] rfl (qkZ w2.heap.size _) ?_)
  | (refine wpList_store_row rfl _ _ _ rfl (w2.heap.size + 1) (inD w2.heap.size nilS) rfl rfl _ _ zi inInfo rfl (by kernel_rfl) ?_))
 obtain ⟨gi, hgi⟩ := nm (w2.heap.size + 1)
 obtain ⟨gs, hgs⟩ := nm (w2.heap.size)
 obtain ⟨gb, hgb⟩ := nm (w.heap.size)
 have hA := HA.out
 rw [<- hgi, <- hgs] at hA
 rw [<- hgi, <- hgb]
 refine qab (fun w3 hw3 => ?_)
 have hA3 : AvAt w gb gc gs gi nilS 0 w3 := by rw [hw3, hgb, hgi, hgs]; exact HA.out
 clear hA HA hw3 hgi hgs hgb zi hc2 hx2 hw2 o2 o3
 go_wp2
 go_loopw [4] (fun i wr => ∃ (k : Nat) (v : Value), i = .int .i64 k /\ k <= 3 /\ AvAt w gb gc gs gi v k wr) (fun i _ => 3 - (RowKit.intOf i).toNat)
 case atStart => exact ⟨0, nilS, rfl, Nat.zero_le _, hA3⟩
 case round =>
  obtain ⟨k, v, rfl, hk, hA⟩ := hrel
  clear hA3
  have c4 : wr.cell? ⟨gi, 4, none⟩ = some v := hA.bi.cell 4
  by_cases hlt : k < 3
  ·have hrow := hA.row.alloc (.cells (shrC ⟨k, exVt⟩) 75)
   have hsn := exS_snoc hlt
   have hb5 := qae wr (.cells (shrC ⟨k, exVt⟩) 75)
   have hs5 : gi + 1 <= (wr.alloc (.cells (shrC ⟨k, exVt⟩) 75)).heap.size := Nat.le_trans hA.bi.lt hb5.size
   have hrd : Reads (wr.alloc (.cells (shrC ⟨k, exVt⟩) 75)) (wr.heap.size + 1) 11 (some ⟨wr.heap.size, 0, none⟩) 1 (shrL ⟨k, exVt⟩) := L7.qdT wr _ _
   have HN := hid (fun v4 w4 h1 h2 => hA.next (v4 := v4) (w4 := w4) hb5 h1 h2)
   have HS := hid hsn
   have HB := hid (fun w4 (hg : (wr.alloc (.cells (shrC ⟨k, exVt⟩) 75)).grownBy w4 v.ownBlock) => (hA.bi.alloc (.cells (shrC ⟨k, exVt⟩) 75)).grown hg (fun e => by have := (hA.row.lt gi e.symm).1; omega))
   clear hA hb5 hsn
   go_wp2_with (first
    | (refine wpList_build rfl _ _ rfl #[(0, .int .i64 2), (1, .int .i64 1), (2, .int .i64 1), (3, .int .i64 1)] rfl (qjN _) ?_)
    | (refine wpList_build rfl _ _ rfl #[(0, .int .i64 k), (1, .agg (stmC exVt))] rfl (L7.qbN _ _ _) ?_)
    | (refine wpList_buildSlice rfl _ _ _ rfl #[(0, .agg (shrC ⟨k, exVt⟩))] rfl (L7.qco _ _) ?_)
    | (at_builtin; refine L3.qao _ rfl _ _ 25 rfl (gi + 1) 75 i0 _ 11 88 Tryz.underlying25 hi hz0 hz1 hz2 rfl (by decide) v k (shrs (exS.take k)) rfl hrow (wr.heap.size + 1) (some ⟨wr.heap.size, 0, none⟩) 1 1 (shrL ⟨k, exVt⟩) rfl hrd (L7.qct _) (by unfold maxLen; omega) (by omega) hs5 ?_
       intro v4 w4 hr4 hg4 hat4
       obtain ⟨A4, n4, rfl, hz4, hy4⟩ := L6.qav hr4
       clear hz4 hy4
       have hB4 := HB.out _ hg4
       have hc4 : w4.cell? ⟨gi, 4, none⟩ = some v := hB4.cell 4
       have hf4 := hB4.frozen 4))
   go_roundw
   case rel => exact ⟨k + 1, _, by go_num, by omega, HN.out _ _ (by rw [<- HS.out]; exact hr4) hg4⟩
   case measure => simp [RowKit.intOf]; omega
  ·obtain rfl : k = 3 := by omega
   obtain ⟨X, hX⟩ := nm (shrs (exS.take 3))
   obtain ⟨Y, hY⟩ := nm (shrL ⟨1, exPr⟩)
   obtain ⟨S1, hS1⟩ := nm (shrC ⟨1, exPr⟩)
   obtain ⟨M1, hM1⟩ := nm (stmC exPr)
   have hbm := qjM
   have hbs := fun W => L7.qbN 1 exPr W
   have hsl := fun W => L7.qco ⟨1, exPr⟩ W
   rw [<- hM1] at hbm
   rw [<- hM1, <- hS1] at hbs
   rw [<- hS1] at hsl
   have hrow := hA.row.alloc (.cells S1 75)
   rw [<- hX] at hrow
   have hsn : X ++ Y = shrs (exS.take 4) := by rw [hX, hY]; exact exS_last
   have hb5 := qae wr (.cells S1 75)
   have hs5 : gi + 1 <= (wr.alloc (.cells S1 75)).heap.size := Nat.le_trans hA.bi.lt hb5.size
   have hrd : Reads (wr.alloc (.cells S1 75)) (wr.heap.size + 1) 11 (some ⟨wr.heap.size, 0, none⟩) 1 Y := by rw [hS1, hY]; exact L7.qdT wr _ _
   have hY1 : ∀ u ∈ Y, u.oneCell' = true := by rw [hY]; exact L7.qct _
   obtain ⟨k3, hk3⟩ := nm (3)
   rw [<- hk3] at hrow
   have hk4 : k3 <= 4 := by omega
   have HN := hid (fun v4 w4 (h1 : w4.ownsRow (gi + 1) 75 11 v4 (k3 + 1) (X ++ Y)) h2 => hA.next (v4 := v4) (w4 := w4) hb5 (by rw [hk3, hsn] at h1; exact h1) h2)
   have HS := hid hk3
   have HB := hid (fun w4 (hg : (wr.alloc (.cells S1 75)).grownBy w4 v.ownBlock) => (hA.bi.alloc (.cells S1 75)).grown hg (fun e => by have := (hA.row.lt gi e.symm).1; omega))
   clear hA hb5 hsn hX hY hS1 hM1 hk3
   go_wp2_with (first
    | (refine wpList_build rfl _ _ rfl #[(0, .int .i64 1), (1, .int .i64 1), (2, .int .i64 1), (3, .int .i64 1), (5, .int .i64 1)] rfl (hbm _) ?_)
    | (refine wpList_build rfl _ _ rfl #[(0, .int .i64 1), (1, .agg M1)] rfl (hbs _) ?_)
    | (refine wpList_buildSlice rfl _ _ _ rfl #[(0, .agg S1)] rfl (hsl _) ?_)
    | (at_builtin; refine L3.qao _ rfl _ _ 25 rfl (gi + 1) 75 i0 _ 11 88 Tryz.underlying25 hi hz0 hz1 hz2 rfl (by decide) v k3 X rfl hrow (wr.heap.size + 1) (some ⟨wr.heap.size, 0, none⟩) 1 1 Y rfl hrd hY1 (by unfold maxLen; omega) (by omega) hs5 ?_
       intro v4 w4 hr4 hg4 hat4
       obtain ⟨A4, n4, e4, hz4, hy4⟩ := L6.qav hr4
       clear hz4 hy4
       have hB4 := HB.out _ hg4
       subst e4
       have hAA := hid (HN.out _ _ hr4 hg4)
       have hbi := hAA.out.bi
       have hc4 : w4.cell? ⟨gi, 4, none⟩ = some v := hB4.cell 4
       have hf4 := hB4.frozen 4
       clear hr4 hg4 hat4 hbm hbs hsl hY1 hrow hrd hs5)
    | (refine qaa rfl _ _ rfl gi rfl _ _ _ _ hbi Tryz.underlying27 rfl inInfo ?_))
   have hk3 := HS.out
   subst hk3
   generalize hw6 : w4.setCell ⟨gi, 4, none⟩ (.slice A4 (3 + 1) n4) = w6 at hAA hbi ⊢
   have hA6 : AvAt w gb gc gs gi (.slice A4 4 n4) 4 w6 := hAA.out
   have hT6 := HT.out.kept hA6.bw
   have hL := laws_any exI ⟨some ⟨gs, 0, none⟩, 1, none, 0, A4, n4, none, 0⟩ w6 exI_wf (exI_at hA6) hT6
   have HA6 := hid (And.intro hA6 hT6)
   have HL := hid (hL.mono (R' := fun e W' => ∃ b g c b2 g2 c2 : Nat, e = .returned (.tuple #[.agg (lawA (some ⟨b, 0, none⟩) (some ⟨g, 0, none⟩) (some ⟨c, 0, none⟩)), .agg (lawA (some ⟨b2, 0, none⟩) (some ⟨g2, 0, none⟩) (some ⟨c2, 0, none⟩)), .bool true]) /\ Six w6 (fun k => k < w6.heap.size) b g c b2 g2 c2 (regsV exI) (regsV exI) [] [] 20 W') (by
    rintro e W' (⟨h1, _⟩ | ⟨_, h⟩)
    ·exact absurd ql4 h1
    ·exact h))
   clear hAA hA6 hT6 hL hw6 hB4 hc4 hf4 HN HS HB c4 hi hz0 hz1 hz2 hk4 hbi
   have hR := qmr exI_wf ql4
   go_upto_region 10 with (first
    | (go_at_call 10; refine HL.out.mono ?_; rintro e w7 ⟨b, g, c, b2, g2, c2, rfl, h7⟩
       have Z := hid (qfe w7 (some ⟨b, 0, none⟩) (some ⟨g, 0, none⟩) (some ⟨c, 0, none⟩) (some ⟨b2, 0, none⟩) (some ⟨g2, 0, none⟩) (some ⟨c2, 0, none⟩)))
    | (refine wpList_store_row rfl _ _ _ rfl w7.heap.size (lawA (some ⟨b, 0, none⟩) (some ⟨g, 0, none⟩) (some ⟨c, 0, none⟩)) rfl rfl _ _ Z.out.1 lawInfo rfl (qbg _ _ _) ?_)
    | (refine wpList_store_row rfl _ _ _ rfl (w7.heap.size + 1) (lawA (some ⟨b2, 0, none⟩) (some ⟨g2, 0, none⟩) (some ⟨c2, 0, none⟩)) rfl rfl _ _ Z.out.2.1 rlawInfo rfl (qbg _ _ _) ?_))
   refine qab (fun w8 hw8 => ?_)
   have hZ := Z.out.2.2
   rw [<- hw8] at hZ
   obtain ⟨z1, z2, z3⟩ := hZ
   obtain ⟨hA6, hT6⟩ := HA6.out
   have h67 := qc1 (Below.refl _ w6) (fun k hk => hk) h7.tn
   have h68 := nxt h67 z3
   have hw8' := hA6.bw.trans (h68.mono (by have := hA6.bw.size; omega))
   have h8 := qhT h7 z3 z2.lt
   have hT8 : TP (fun k => k < w6.heap.size ∨ k = w7.heap.size ∨ k = w7.heap.size + 1) w8 := tp_mk hT6 h68 (fun k hk => .inl hk)
   have kl := z1
   have kc := hA6.bc.below h68 hA6.bc.lt
   have kb := hA6.bb.below h68 hA6.bb.lt
   have g1 := hA6.bc.lt
   have g2' := hA6.bb.lt
   obtain ⟨a, ha⟩ := nm (w7.heap.size)
   rw [<- ha] at h8 hT8 kl ⊢
   obtain ⟨P, hPe⟩ : ∃ P : Nat -> Prop, P = fun k => k < w6.heap.size ∨ k = a ∨ k = a + 1 := ⟨_, rfl⟩
   rw [<- hPe] at h8 hT8
   have pa : P a := by rw [hPe]; exact .inr (.inl rfl)
   have pc : P gc := by rw [hPe]; exact .inl g1
   have pb : P gb := by rw [hPe]; exact .inl g2'
   have pw : ∀ k, k < w.heap.size -> P k := fun k hk => by rw [hPe]; exact .inl (Nat.lt_of_lt_of_le hk hA6.bw.size)
   have o1 : w.heap.size <= gc := Nat.le_trans hA6.o1 (Nat.le_of_lt hA6.o2)
   have hc := qgK h8 hT8 hR (by decide) exC1 (by simp [Crt.wf, L11.inI, L11.inU, exC1])
   rw [ex_cert] at hc
   have HC := hid hc
   have hne : ¬ a = gc := by rw [ha]; have := h7.tn.size; omega
   have HK := hid (And.intro hT8 (And.intro hR (And.intro pw (And.intro hne (And.intro o1 (And.intro hw8' (And.intro pa (And.intro pc pb))))))))
   clear hc hw8 z1 z2 z3 Z HA6 hA6 hT6 h67 h68 ha g1 g2' HL hPe h8 h7
   have K8 := hid (And.intro kl (And.intro kc kb))
   clear hT8 hw8' hR pw o1 pa pc pb hne
   go_upto_region 12 with (first
    | (refine qaa rfl _ _ rfl a rfl _ _ _ _ kl Tryz.underlying39 rfl lawInfo ?_)
    | (refine qaa rfl _ _ rfl gc rfl _ _ _ _ kc Tryz.underlying29 rfl L11.crtInfo ?_)
    | (go_at_call 11; refine HC.out.mono ?_; rintro e w9 ⟨rfl, h9⟩))
   obtain ⟨hT8, hR, pw, hne, o1, hw8', pa, pc, pb⟩ := HK.out
   have kl9 := h9.tn.blk kl (fun h => h pa)
   have kc9 := h9.tn.blk kc (fun h => h pc)
   have kb9 := h9.tn.blk kb (fun h => h pb)
   have hb := six_blk h9 hT8 hR exV none 0 none 0 (by decide) exV_wf Rd.nil Rd.nil (Nat.le_refl _) (fun h => absurd rfl h)
   rw [ex_blk] at hb
   have HB := hid (show Calls Tryz.prog 27 #[.agg (lawA (some ⟨b, 0, none⟩) (some ⟨g, 0, none⟩) (some ⟨c, 0, none⟩)), .agg (bloC exV nilS nilS)] w9 (fun e W' => e = .returned (.tuple #[.int .i64 1, .int .i64 0]) /\ ∃ N', Six w8 P b g c b2 g2 c2 (regsV exI) (regsV exI) N' [] 22 W') from hb)
   clear kl kc kb hb HC h9 hT8 hR pw hne o1 hw8' pa pc pb
   go_upto_region 13 with (first
    | (refine qaa rfl _ _ rfl a rfl _ _ _ _ kl9 Tryz.underlying39 rfl lawInfo ?_)
    | (refine qaa rfl _ _ rfl gb rfl _ _ _ _ kb9 Tryz.underlying57 rfl bloInfo ?_)
    | (go_at_call 27; refine HB.out.mono ?_; rintro e w10 ⟨rfl, N', h10⟩))
   obtain ⟨hT8, hR, pw, hne, o1, hw8', pa, pc, pb⟩ := HK.out
   have kl10 := h10.tn.blk K8.out.1 (fun h => h pa)
   have kc10 := h10.tn.blk K8.out.2.1 (fun h => h pc)
   have hc1 : w10.cell? ⟨gc, 1, none⟩ = some (.int .i64 1) := kc10.cell 1
   have hf1 := kc10.frozen 1
   have H10 := hid (And.intro h10 (And.intro kl10 kc10))
   clear kl9 kc9 kb9 HB hT8 hR pw hne o1 hw8' pa pc pb h10 kl10 kc10
   go_upto_region 14 with fail
   obtain ⟨hT8, hR, pw, hne, o1, hw8', pa, pc, pb⟩ := HK.out
   obtain ⟨h10, kl10, kc10⟩ := H10.out
   have h11 := h10.struck pc ⟨gc, 1, none⟩ rfl (.int .i64 2)
   have hs : Turn (fun i => i = gc) w10 (w10.setCell ⟨gc, 1, none⟩ (.int .i64 2)) := Turn.setCell (S := fun i => i = gc) (Turn.refl _ w10) (p := ⟨gc, 1, none⟩) (.inl rfl) _
   have kl11 := hs.blk kl10 hne
   have kc11 : Blk (w10.setCell ⟨gc, 1, none⟩ (.int .i64 2)) gc 29 (crtC exC2) := kc10.set_ 1 (.int .i64 2)
   have hb11 := hs.below (B := w.heap.size) (fun i hi => by omega) (Nat.le_trans hw8'.size h10.tn.size)
   have hbw := (qc1 hw8' pw h10.tn).trans hb11
   refine qab (fun w11 hw11 => ?_)
   rw [<- hw11] at h11 kl11 kc11 hbw
   have hc := qgK h11 (tp_mk HT.out hbw pw) hR (by decide) exC2 (by simp [Crt.wf, L11.inI, L11.inU, exC2])
   rw [ex_cert2] at hc
   have HC := hid hc
   have HE := hid (And.intro hbw pw)
   clear hc hT8 hR pw hne o1 hw8' pa pc pb h10 kl10 kc10 h11 hs hb11 hbw hw11 H10 hc1 hf1
   go_wp2_with (first
    | (refine qaa rfl _ _ rfl a rfl _ _ _ _ kl11 Tryz.underlying39 rfl lawInfo ?_)
    | (refine qaa rfl _ _ rfl gc rfl _ _ _ _ kc11 Tryz.underlying29 rfl L11.crtInfo ?_)
    | (go_at_call 11; refine HC.out.mono ?_; rintro e w12 ⟨rfl, h12⟩))
   go_ret
   exact ⟨rfl, qc1 HE.out.1 HE.out.2 h12.tn⟩
end Go.Proofs.YtomaaidhmccngaaGreatDoor
namespace Go.Proofs.YtomaaidhmccngaaGreatDoor
open Go.RowKit Go.Maps Go.Lib
open L3 (Blk Reads)
open L6 (Turn)
open L7 (Shr shrC shrL stmC)
open L11 (Crt crtC mayV)
