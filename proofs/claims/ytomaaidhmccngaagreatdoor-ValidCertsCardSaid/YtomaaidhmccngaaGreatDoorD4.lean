import Derived.Test.YtomaaidhmccngaaGreatDoorD3
import Derived.Test.YtomaaidhmccngaaGreatDoorV4
set_option linter.unusedSimpArgs false
set_option linter.unusedVariables false
set_option maxRecDepth 100000
set_option maxHeartbeats 16000000
namespace Go.Proofs.YtomaaidhmccngaaGreatDoor
open Go.RowKit Go.Maps Go.Lib
open L3 (Blk Reads doneV)
open L6 (Turn)
open L11 (Crt zeroC crtC wpList_store_row qac below_setRow qah)
def parsedD (l : List UInt8) (w : World) (e : Ending) (w' : World) : Prop :=
 ∃ (q : Int) (P T : Value), e = .returned (.tuple #[.agg (bloC (parseB l).1 P T), .int .i64 q]) /\ (q = 0 ↔ (parseB l).2 = 0) /\ LiesF w.heap.size w' (parseB l).1 P T /\ Below w.heap.size w w'
theorem qc5 {B : Nat} {w w' : World} {b : Blo} {P T : Value} (h : LiesF B w b P T) (hb : Below w.heap.size w w') : LiesF B w' b P T := by
 obtain ⟨A, c, D, d, h1, h2, h3, h4, h5, h6⟩ := h
 exact ⟨A, c, D, d, h1, h2, h3.below hb, h4.below hb, h5, h6⟩
theorem qcS {B : Nat} {w : World} {b : Blo} {P T : Value} (h : LiesF B w b P T) : ∃ A n c D m d, P = .slice A n c /\ T = .slice D m d := by
 obtain ⟨A, c, D, d, h1, h2, _⟩ := h
 exact ⟨A, _, c, D, _, d, h1, h2⟩
theorem qk1 (l : List UInt8) (w : World) (hl : l.length <= 1000000) : Calls Tryz.prog 83 #[.string (str l)] w (parsedD l w) := by
 have hT := fun W => qblk_doc (l, 0) 0 W ⟨Iff.rfl, fun h => absurd rfl h, hl⟩
 have hpd := qme l
 obtain ⟨z, hz⟩ := nm (takeDB (l, 0))
 rw [<- hz] at hT hpd
 have hno : doneV z.2 ≠ 0 -> (parseB l).1 = zeroB /\ (parseB l).2 ≠ 0 := fun h => by
  have e : endP z = (zeroB, doneV z.2) := by unfold endP; rw [if_pos h]
  rw [e] at hpd
  exact ⟨hpd.1.symm, fun h2 => h (hpd.2.2 h2)⟩
 have hyes : doneV z.2 = 0 -> (parseB l).1 = z.1 /\ (parseB l).2 = 0 := fun h => by
  have e : endP z = (z.1, 0) := by unfold endP; rw [if_neg (fun h2 => h2 h)]
  rw [e] at hpd
  exact ⟨hpd.1.symm, hpd.2.1 rfl⟩
 have HT := hid hT
 have HN := hid (And.intro hno hyes)
 have hb0 := (Below.refl _ w).alloc (Nat.le_refl _) (.cells (bloC zeroB nS0 nS0) 57)
 have HB := hid (And.intro (Blk.new w 57 (bloC zeroB nS0 nS0)) hb0)
 have hbs := fun W => qgl l W
 obtain ⟨s, hs⟩ := nm (str l)
 rw [<- hs] at hbs
 rw [<- hs]
 clear hz hpd hno hyes hT hb0 hs
 go_enter Tryz.func83, Tryz.ntmps83
 go_upto_region 1 with fail
 refine qab (fun w0 hw0 => ?_)
 have hA : Blk w0 w.heap.size 57 (bloC zeroB nS0 nS0) /\ Below w.heap.size w w0 := by rw [hw0]; exact HB.out
 clear hw0 HB
 go_upto_region 2 with (first
  | (refine wpList_build rfl _ _ rfl #[(0, .string s)] rfl (hbs _) ?_)
  | (go_at_call 135; refine (HT.out _).mono ?_; rintro e w1 ⟨E1, P, T, rfl, hE1, hL1, hb1⟩
     obtain ⟨A2, n2, c2, D2, m2, d2, rfl, rfl⟩ := qcS hL1
     have Z := hid (qcv w1 57 172 (bloC zeroB nS0 nS0) zC)
     have kb := qah (ds := bloC z.1 (.slice A2 n2 c2) (.slice D2 m2 d2)) Z.out.2.1 (show w1.heap.size ≠ w1.heap.size + 1 by omega))
  | (refine wpList_store_row rfl _ _ _ rfl w1.heap.size (bloC z.1 (.slice A2 n2 c2) (.slice D2 m2 d2)) rfl rfl _ _ Z.out.1 (bloInfo12 _ _ _) rfl (qaC _ _ _ _ _ _ _) ?_
     refine wpList_store_row rfl _ _ _ rfl (w1.heap.size + 1) (rC z.2.1 E1) rfl rfl _ _ kb (rInfo _ _) rfl (qap _ _) ?_))
 have hb2 := Z.out.2.2
 have kR := qac (cs := rC z.2.1 E1) kb
 have kB := qah (ds := rC z.2.1 E1) (qac (cs := bloC z.1 (.slice A2 n2 c2) (.slice D2 m2 d2)) Z.out.1) (show w1.heap.size + 1 ≠ w1.heap.size by omega)
 have hb3 := below_setRow (cs := rC z.2.1 E1) (below_setRow (cs := bloC z.1 (.slice A2 n2 c2) (.slice D2 m2 d2)) hb2 (Nat.le_refl _)) (Nat.le_succ _)
 have kz := (hA.1.below hb1 hA.1.lt).below hb3 (hA.1.below hb1 hA.1.lt).lt
 have hw3 := nxt (nxt hA.2 hb1) hb3
 have hL3 : LiesF (w.heap.size + 1) _ z.1 (.slice A2 n2 c2) (.slice D2 m2 d2) := qc5 (hL1.le hA.1.lt) hb3
 obtain ⟨g, hg⟩ := nm (w1.heap.size)
 rw [<- hg] at kR kB
 rw [<- hg]
 refine qab (fun w3 hw3' => ?_)
 rw [hg] at hw3'
 rw [<- hg] at hw3'
 have hq : Blk w3 (g + 1) 172 (rC z.2.1 E1) /\ Blk w3 g 57 (bloC z.1 (.slice A2 n2 c2) (.slice D2 m2 d2)) /\ Blk w3 w.heap.size 57 (bloC zeroB nS0 nS0) /\ Below w.heap.size w w3 /\ LiesF (w.heap.size + 1) w3 z.1 (.slice A2 n2 c2) (.slice D2 m2 d2) := by
  rw [hw3']
  rw [<- hg] at kz hw3 hL3
  exact ⟨kR, kB, kz, hw3, hL3⟩
 clear hw3' hg hb2 kR kB hb3 kz hw3 hL3 kb Z hb1 hL1 hA HT hbs
 obtain ⟨kR, kB, kz, hw3, hL3⟩ := hq
 have hd := qml z.2 E1 w3 hE1
 clear hE1
 go_upto_region 3 with (first
  | (refine qaa rfl _ _ rfl (g + 1) rfl _ _ _ _ kR Tryz.underlying172 rfl (rInfo _ _) ?_)
  | (go_at_call 136; refine hd.mono ?_; rintro e w4 ⟨q, rfl, hq, hb4⟩))
 have kB4 := kB.below hb4 kB.lt
 have kz4 := kz.below hb4 kz.lt
 have hw4 := nxt hw3 hb4
 have hL4 := qc5 hL3 hb4
 clear kR kB kz hw3 hL3 hb4 hd
 by_cases h0 : q = 0
 ·obtain ⟨e1, e2⟩ := HN.out.2 (hq.1 h0)
  subst h0
  clear HN hq
  go_wp2_with (first
   | (refine qaa rfl _ _ rfl g rfl _ _ _ _ kB4 Tryz.underlying57 rfl (bloInfo12 _ _ _) ?_)
   | (refine wpList_store_row rfl _ _ _ rfl w.heap.size (bloC z.1 (.slice A2 n2 c2) (.slice D2 m2 d2)) rfl rfl _ _ kz4 (bloInfo12 _ _ _) rfl (qaC _ _ _ _ _ _ _) ?_))
  (try simp only [Exit.inBlock, Exit.then])
  refine bodyPost_ret (v := .tuple #[.agg (bloC z.1 (.slice A2 n2 c2) (.slice D2 m2 d2)), .int .i64 0]) (qaN rfl _ _ w.heap.size rfl (.int .i64 0) rfl _ (bloC z.1 (.slice A2 n2 c2) (.slice D2 m2 d2)) _ _ (qac kz4) Tryz.underlying57 rfl (bloInfo12 _ _ _)) rfl ?_
  have hfin := (hL4.turn (qaB w4 w.heap.size (bloC z.1 (.slice A2 n2 c2) (.slice D2 m2 d2))) (fun k hk => by omega)).le (Nat.le_succ w.heap.size)
  exact ⟨0, _, _, by rw [e1], ⟨fun _ => e2, fun _ => rfl⟩, by rw [e1]; exact hfin, below_setRow hw4 (Nat.le_refl _)⟩
 ·obtain ⟨e1, e2⟩ := HN.out.1 (fun h => h0 (hq.2 h))
  have q1 : (q != 0) = true := by simpa using h0
  have H0 := hid h0
  clear HN hq h0 hL4
  go_wp2_with (first
   | (refine wpList_build rfl _ _ rfl #[] rfl (qde _) ?_)
   | (refine wpList_store_row rfl _ _ _ rfl w.heap.size (bloC zeroB nS0 nS0) rfl rfl _ _ kz4 (bloInfo12 _ _ _) rfl (qaC _ _ _ _ _ _ _) ?_))
  (try simp only [Exit.inBlock, Exit.then])
  refine bodyPost_ret (v := .tuple #[.agg (bloC zeroB nS0 nS0), .int .i64 q]) (qaN rfl _ _ w.heap.size rfl (.int .i64 q) rfl _ (bloC zeroB nS0 nS0) _ _ (qac kz4) Tryz.underlying57 rfl (bloInfo12 _ _ _)) rfl ?_
  exact ⟨q, nS0, nS0, by rw [e1], ⟨fun h => absurd h H0.out, fun h => absurd h e2⟩, by rw [e1]; exact qbq _ _, below_setRow hw4 (Nat.le_refl _)⟩
section
variable {V : Nat -> Prop} {b g c : Nat} {R : Regs} {N : List Int} {w W W' : World}
theorem qgH (h : RTrio V b g c R N W) (hw : R.wf) (n : Int) : Calls Tryz.prog 82 #[.pointer (some ⟨b, 0, none⟩), .int .i64 n] W fun e W' => e = .returned (.tuple #[.string (L5.contS R.K n), .bool (decide (L5.contE R.K n = 0))]) /\ W' = W := by
 obtain ⟨S, T, X, h1, _⟩ := h
 exact L5.qf6 S b R.K n W h1 (by have := hw.kl; omega)
end
theorem qeC {V : Nat -> Prop} {b g c : Nat} {R : Regs} {N : List Int} (n : Int) (w : World) (h : RTrio V b g c R N w) (hw : R.wf) :
 Calls Tryz.prog 20 #[.agg (lawA (some ⟨b, 0, none⟩) (some ⟨g, 0, none⟩) (some ⟨c, 0, none⟩)), .int .i64 n] w (toldB (contV R.K n) w) := by
 have Z := hid (qcv w 44 57 (lawA (some ⟨b, 0, none⟩) (some ⟨g, 0, none⟩) (some ⟨c, 0, none⟩)) (bloC zeroB nS0 nS0))
 have HC := hid (fun W (hb : Below w.heap.size w W) => qgH (h.below hb) hw n)
 have hV : contV R.K n = if L5.contE R.K n ≠ 0 then (zeroB, 50) else if (parseB (L5.contS R.K n).data.toList).2 ≠ 0 then (zeroB, 120) else ((parseB (L5.contS R.K n).data.toList).1, 0) := rfl
 have hsz : (L5.contS R.K n).size <= 65536 := by
  unfold L5.contS
  split
  ·exact Nat.zero_le _
  ·rw [List.getD_eq_getElem?_getD]
   cases hx : R.K[n.toNat - 1]? with
   | none => exact Nat.zero_le _
   | some s => exact hw.ks s (List.mem_of_getElem? hx)
 obtain ⟨s, hs⟩ := nm (L5.contS R.K n)
 obtain ⟨l, hl⟩ := nm (s.data.toList)
 have hsl : s = str l := by rw [hl]; exact (qfw s).symm
 rw [<- hs] at hV hsz
 rw [<- hl] at hV
 rw [<- hs, hsl] at HC
 have hll : l.length <= 1000000 := by have := qa4 l; rw [<- hsl] at this; omega
 have hP := fun W => qk1 l W hll
 unfold toldB
 rw [hV]
 obtain ⟨pb, hpb⟩ := nm (parseB l)
 unfold parsedD at hP
 rw [<- hpb] at hP ⊢
 have HP := hid hP
 clear hV hs hl hsl hll hsz hP hpb h hw
 by_cases h0 : L5.contE R.K n = 0
 ·have e0 : decide (L5.contE R.K n = 0) = true := by rw [h0]; rfl
  rw [e0] at HC
  rw [if_neg (fun h => h h0)]
  obtain ⟨zr, hzr⟩ : ∃ z : Blo × Int, z = if pb.2 ≠ 0 then (zeroB, 120) else (pb.1, 0) := ⟨_, rfl⟩
  rw [<- hzr]
  have HX := hid hzr
  clear e0 h0 hzr
  go_enter Tryz.func20, Tryz.ntmps20
  go_upto_region 1 with fail
  refine qab (fun w0 hw0 => ?_)
  have hA : Blk w0 w.heap.size 44 (lawA (some ⟨b, 0, none⟩) (some ⟨g, 0, none⟩) (some ⟨c, 0, none⟩)) /\ Blk w0 (w.heap.size + 1) 57 (bloC zeroB nS0 nS0) /\ Below w.heap.size w w0 := by rw [hw0]; exact Z.out
  clear hw0 Z
  have c0 : w0.cell? ⟨w.heap.size, 0, none⟩ = some (.pointer (some ⟨b, 0, none⟩)) := hA.1.cell 0
  go_upto_region 5 with (first
   | (go_at_call 82; refine (HC.out _ hA.2.2).mono ?_; rintro e w1 ⟨rfl, rfl⟩)
   | (go_at_call 83; refine (HP.out _).mono ?_; rintro e w2 ⟨q, P, T, rfl, hq, hL, hb2⟩
      obtain ⟨A2, n2, c2, D2, m2, d2, rfl, rfl⟩ := qcS hL)
   | (refine qaf rfl _ _ _ rfl w2 (bloC pb.1 (.slice A2 n2 c2) (.slice D2 m2 d2)) rfl rfl _ _ (bloInfo12 _ _ _) rfl (qaC _ _ _ _ _ _ _) ?_))
  have hb3 := (Below.refl _ w2).alloc (Nat.le_refl _) (.cells (bloC pb.1 (.slice A2 n2 c2) (.slice D2 m2 d2)) 57)
  have kx := Blk.new w2 57 (bloC pb.1 (.slice A2 n2 c2) (.slice D2 m2 d2))
  have hL3 : LiesF (w.heap.size + 2) _ pb.1 (.slice A2 n2 c2) (.slice D2 m2 d2) := qc5 (hL.le hA.2.1.lt) hb3
  have kz := (hA.2.1.below hb2 hA.2.1.lt).below hb3 (hA.2.1.below hb2 hA.2.1.lt).lt
  have hw3 := nxt (nxt hA.2.2 hb2) hb3
  obtain ⟨G, hG⟩ := nm (w2.heap.size)
  rw [<- hG] at kx ⊢
  refine qab (fun w3 hw3' => ?_)
  rw [<- hw3'] at kx kz hw3 hL3
  clear hw3' hG hb3 hb2 hL hA c0 HC HP
  by_cases hp : pb.2 = 0
  ·have E : zr = (pb.1, 0) := by rw [HX.out, if_neg (fun h => h hp)]
   subst E
   have h0 := hq.2 hp
   subst h0
   clear hq hp
   go_wp2_with (first
    | (refine qaa rfl _ _ rfl G rfl _ _ _ _ kx Tryz.underlying57 rfl (bloInfo12 _ _ _) ?_)
    | (refine wpList_store_row rfl _ _ _ rfl (w.heap.size + 1) (bloC pb.1 (.slice A2 n2 c2) (.slice D2 m2 d2)) rfl rfl _ _ kz (bloInfo12 _ _ _) rfl (qaC _ _ _ _ _ _ _) ?_))
   (try simp only [Exit.inBlock, Exit.then])
   refine bodyPost_ret (v := .tuple #[.agg (bloC pb.1 (.slice A2 n2 c2) (.slice D2 m2 d2)), .int .i64 0]) (qaN rfl _ _ (w.heap.size + 1) rfl (.int .i64 0) rfl _ (bloC pb.1 (.slice A2 n2 c2) (.slice D2 m2 d2)) _ _ (qac kz) Tryz.underlying57 rfl (bloInfo12 _ _ _)) rfl ?_
   have hfin := (hL3.turn (qaB w3 (w.heap.size + 1) (bloC pb.1 (.slice A2 n2 c2) (.slice D2 m2 d2))) (fun k hk => by omega)).le (show w.heap.size <= w.heap.size + 2 by omega)
   exact ⟨_, _, rfl, hfin, below_setRow hw3 (Nat.le_succ _)⟩
  ·have E : zr = (zeroB, 120) := by rw [HX.out, if_pos hp]
   subst E
   have h0 : q ≠ 0 := fun h => hp (hq.1 h)
   have q1 : (q != 0) = true := by simpa using h0
   clear hq hp h0 hL3
   go_wp2_with (first
    | (refine wpList_build rfl _ _ rfl #[] rfl (qde _) ?_)
    | (refine wpList_store_row rfl _ _ _ rfl (w.heap.size + 1) (bloC zeroB nS0 nS0) rfl rfl _ _ kz (bloInfo12 _ _ _) rfl (qaC _ _ _ _ _ _ _) ?_))
   (try simp only [Exit.inBlock, Exit.then])
   refine bodyPost_ret (v := .tuple #[.agg (bloC zeroB nS0 nS0), .int .i64 120]) (qaN rfl _ _ (w.heap.size + 1) rfl (.int .i64 120) rfl _ (bloC zeroB nS0 nS0) _ _ (qac kz) Tryz.underlying57 rfl (bloInfo12 _ _ _)) rfl ?_
   exact ⟨nS0, nS0, rfl, qbq _ _, below_setRow hw3 (Nat.le_succ _)⟩
 ·have e0 : decide (L5.contE R.K n = 0) = false := by simpa using h0
  rw [e0] at HC
  rw [if_pos h0]
  clear e0 h0 HP
  go_enter Tryz.func20, Tryz.ntmps20
  go_upto_region 1 with fail
  refine qab (fun w0 hw0 => ?_)
  have hA : Blk w0 w.heap.size 44 (lawA (some ⟨b, 0, none⟩) (some ⟨g, 0, none⟩) (some ⟨c, 0, none⟩)) /\ Blk w0 (w.heap.size + 1) 57 (bloC zeroB nS0 nS0) /\ Below w.heap.size w w0 := by rw [hw0]; exact Z.out
  clear hw0 Z
  have c0 : w0.cell? ⟨w.heap.size, 0, none⟩ = some (.pointer (some ⟨b, 0, none⟩)) := hA.1.cell 0
  go_wp2_with (first
   | (go_at_call 82; refine (HC.out _ hA.2.2).mono ?_; rintro e w1 ⟨rfl, rfl⟩)
   | (refine wpList_build rfl _ _ rfl #[] rfl (qde _) ?_)
   | (refine wpList_store_row rfl _ _ _ rfl (w.heap.size + 1) (bloC zeroB nS0 nS0) rfl rfl _ _ hA.2.1 (bloInfo12 _ _ _) rfl (qaC _ _ _ _ _ _ _) ?_))
  (try simp only [Exit.inBlock, Exit.then])
  refine bodyPost_ret (v := .tuple #[.agg (bloC zeroB nS0 nS0), .int .i64 50]) (qaN rfl _ _ (w.heap.size + 1) rfl (.int .i64 50) rfl _ (bloC zeroB nS0 nS0) _ _ (qac hA.2.1) Tryz.underlying57 rfl (bloInfo12 _ _ _)) rfl ?_
  exact ⟨nS0, nS0, rfl, qbq _ _, below_setRow hA.2.2 (Nat.le_succ _)⟩
end Go.Proofs.YtomaaidhmccngaaGreatDoor
namespace Go.Proofs.YtomaaidhmccngaaGreatDoor
open Go.RowKit Go.Maps Go.Lib
open L3 (Blk Reads)
open L6 (Turn moreB)
open L7 (seeE seeN seeW)
open L11 (Crt zeroC crtC crtInfo qal mayV endV stmC stmV qaj wpList_store_row qac below_setRow qah)
structure RRch (w : World) (V : Nat -> Prop) (b g c : Nat) (R : Regs) (N : List Int) (W : World) : Prop where
 ex : ∃ V', RTrio V' b g c R N W /\ ∀ k, V' k -> V k ∨ w.heap.size <= k
 tn : Turn V w W
section
variable {V V' : Nat -> Prop} {b g c : Nat} {R : Regs} {N N' : List Int} {w W W' : World}
theorem RRch.start (h : RTrio V b g c R N w) : RRch w V b g c R N w := ⟨⟨V, h, fun _ => .inl⟩, L6.Turn.refl _ _⟩
theorem RRch.then (h : Turn V w W) (hs : ∀ k, V' k -> V k ∨ w.heap.size <= k) (k : RRch W V' b g c R N W') : RRch w V b g c R N W' := by
 obtain ⟨⟨V1, hV, hs'⟩, ht⟩ := k
 refine ⟨⟨V1, hV, fun i hi => ?_⟩, h.trans ht hs⟩
 rcases hs' i hi with h1 | h1
 ·exact hs i h1
 ·exact .inr (Nat.le_trans h.size h1)
theorem qiE (h : RTrio V b g c R N W) : W.cell? ⟨g, 0, none⟩ = some (.int .i64 R.f) := by
 obtain ⟨S, T, X, _, h2, _⟩ := h
 obtain ⟨v, hb, _⟩ := h2
 exact hb.cell 0
theorem qhP (h : RTrio V b g c R N W) (hw : R.wf) (s : L7.Stm) (hs : s.wf) (n : Nat) (hn : n < 4294967296) (least : Int) : Calls Tryz.prog 60 #[.pointer (some ⟨g, 0, none⟩), .agg (L7.stmC s), .int .u32 n, .int .i64 least] W (gives (.int .i64 (L7.enoughE R.f R.bad R.L s n least)) W) := by
 obtain ⟨S, T, X, _, h2, _⟩ := h
 exact L7.qcJ T g R.f R.bad R.L s n least W h2 (qeK hw.hf) hw.hb hs hw.lw (by have := hw.ll; omega) hn
theorem qhO (h : RTrio V b g c R N W) (hw : R.wf) (y : L7.Shr) (hy : y.wf) : Calls Tryz.prog 69 #[.pointer (some ⟨g, 0, none⟩), .agg (L7.shrC y)] W (gives (.int .i64 (L7.cntE R.f R.bad R.L y)) W) := by
 obtain ⟨S, T, X, _, h2, _⟩ := h
 exact L7.qdU T g R.f R.bad R.L y W h2 (qeK hw.hf) hw.hb hy hw.lw (by have := hw.ll; omega)
theorem qm0 (h : RTrio V b g c R N W) (hw : R.wf) (hN : N.length <= 100000000) (u : Int) (n : Nat) (hn : n < 4294967296) : Calls Tryz.prog 63 #[.pointer (some ⟨c, 0, none⟩), .pointer (some ⟨g, 0, none⟩), .int .i64 u, .int .u32 n] W fun e W' => e = .returned (.tuple #[.int .i64 (seeW R.f R.f R.bad R.L R.G u n), .int .i64 (seeE R.f R.f R.bad R.L u n)]) /\ RRch W V b g c R (seeN R.f R.f R.bad R.L N u n) W' := by
 obtain ⟨S, T, X, h1, h2, h3, h5, h6, h7, h8, h9, h10, hi⟩ := h
 refine (L7.rsee_any X T c g R.f R.f R.bad R.G N R.L u n W h3 h2 hw.hf hw.hb hw.lw (by have := hw.ll; omega) (by have := hw.gl; omega) (by omega) hn).mono ?_
 rintro e W' ⟨rfl, hC, ht⟩
 have hiS : L6.In W S := fun j hj => hi j (h8 j hj)
 have hiT : L6.In W T := fun j hj => hi j (h9 j hj)
 refine ⟨rfl, ⟨⟨moreB V W W', ⟨S, T, moreB X W W', h1.kept ht (fun j _ hj hX => h7 j hX hj), h2.kept ht (fun j _ hj hX => h6 j hj hX), hC, h5, (h6.symm.more hiT).symm, h7.more hiS, fun k hk => .inl (h8 k hk), fun k hk => .inl (h9 k hk), fun k hk => hk.imp (h10 k) id, hi.more ht.size⟩, fun k hk => ?_⟩, ht.mono fun j _ => h10 j⟩⟩
 rcases hk with h1 | h1
 ·exact .inl h1
 ·exact .inr h1.1
end
theorem certN_no {R : Regs} {N : List Int} {x : Crt} (h : certS R x = false) : certN R N x = N := by unfold certN; rw [h]; rfl
theorem qlj {R : Regs} {N : List Int} {x : Crt} (h1 : mayV x = true) (h2 : x.kind ≠ 0) (h3 : fitE R x = 0) (h4 : sigE R x = 0) (h5 : endV x = true) : certN R N x = seeN R.f R.f R.bad R.L N x.view x.co := by
 have hs : certS R x = decide (coE R x = 0) := by unfold certS; simp [h1, h2, h3, h4, h5]
 unfold certN L7.seeN
 rw [hs]
 have e : coE R x = seeE R.f R.f R.bad R.L x.view x.co := rfl
 rw [<- e]
 by_cases h : coE R x = 0 <;> simp [h]
structure RqcAt (w : World) (V : Nat -> Prop) (b g c : Nat) (R : Regs) (N : List Int) (x : Crt) (W : World) : Prop where
 bl : Blk W w.heap.size 44 (lawA (some ⟨b, 0, none⟩) (some ⟨g, 0, none⟩) (some ⟨c, 0, none⟩))
 bx : Blk W (w.heap.size + 1) 29 (crtC x)
 tr : RTrio V b g c R N W
 bw : Below w.heap.size w W
theorem RqcAt.below {w W W' : World} {V : Nat -> Prop} {b g c : Nat} {R : Regs} {N : List Int} {x : Crt} (h : RqcAt w V b g c R N x W) (hb : Below W.heap.size W W') : RqcAt w V b g c R N x W' := ⟨h.bl.below hb h.bl.lt, h.bx.below hb h.bx.lt, h.tr.below hb, nxt h.bw hb⟩
theorem RqcAt.leaves {w W : World} {V : Nat -> Prop} {b g c : Nat} {R : Regs} {N : List Int} {x : Crt} (h : RqcAt w V b g c R N x W) : RRch w V b g c R N W := ⟨⟨V, h.tr, fun _ => .inl⟩, L6.Turn.of_keep h.bw⟩
theorem qh8 {V : Nat -> Prop} {b g c : Nat} {R : Regs} {N : List Int} (x : Crt) (w : World) (h : RTrio V b g c R N w) (hw : R.wf) (hx : x.wf) (hN : N.length <= 100000000) :
 Calls Tryz.prog 12 #[.agg (lawA (some ⟨b, 0, none⟩) (some ⟨g, 0, none⟩) (some ⟨c, 0, none⟩)), .agg (crtC x)] w fun e W' => e = .returned (.int .i64 (certE R x)) /\ RRch w V b g c R (certN R N x) W' := by
 have Z := qcv w 44 29 (lawA (some ⟨b, 0, none⟩) (some ⟨g, 0, none⟩) (some ⟨c, 0, none⟩)) (crtC x)
 have HFAR := hid (show ¬ V (w.heap.size + 1) from fun hv => by have := h.inV _ hv; omega)
 have HS := hid (show RqcAt w V b g c R N x _ from ⟨Z.1, Z.2.1, h.below Z.2.2, Z.2.2⟩)
 have HC := hid (fun W => L11.qa2 x W hx)
 have HCO := hid (fun W (hA : RqcAt w V b g c R N x W) => qeC x.block W hA.tr hw)
 have HST := hid (fun W => L11.qiA x W)
 have HQ := hid (fun W => L4.qdW R.f W (by have := L4.qbP hw.hf; omega) (by have := L4.qbP hw.hf; omega))
 have HE := hid (fun W (hA : RqcAt w V b g c R N x W) => (by
  have h2 := qhP hA.tr hw (toS (stmV x)) (toS_wf (L11.qmI hx)) x.sg hx.2.2.2.2.2.2.1 (L4.more 2 R.f)
  rw [toS_C] at h2
  exact h2 : Calls Tryz.prog 60 #[.pointer (some ⟨g, 0, none⟩), .agg (stmC (stmV x)), .int .u32 x.sg, .int .i64 (L4.more 2 R.f)] W (gives (.int .i64 (sigE R x)) W)))
 have HSE := hid (fun W (hA : RqcAt w V b g c R N x W) => qm0 hA.tr hw hN x.view x.co hx.2.2.2.2.2.2.2)
 have hV : certE R x = if mayV x = false then 110 else if x.kind = 0 then 0 else if fitE R x ≠ 0 then fitE R x else if sigE R x ≠ 0 then sigE R x else elcE R x := rfl
 have hF : fitE R x = if (contV R.K x.block).2 ≠ 0 then (contV R.K x.block).2 else if fitsV x (contV R.K x.block).1 = true then 0 else 110 := rfl
 have hEL : elcE R x = if endV x = false then 0 else if coE R x ≠ 0 then coE R x else if L7.whoV R.f R.G x.view = x.author then 0 else 70 := rfl
 have hCS : certS R x = (mayV x && (!decide (x.kind = 0) && (decide (fitE R x = 0) && (decide (sigE R x = 0) && (endV x && decide (coE R x = 0)))))) := rfl
 have hno := certN_no (R := R) (N := N) (x := x)
 have hyes := qlj (R := R) (N := N) (x := x)
 obtain ⟨ce, hce⟩ := nm (certE R x)
 obtain ⟨N', hN'⟩ : ∃ e, e = certN R N x := ⟨_, rfl⟩
 rw [<- hce, <- hN']
 rw [<- hce] at hV
 rw [<- hN'] at hno hyes
 have HV := hid hV
 have HF := hid hF
 have HEL := hid hEL
 have HNO := hid (show certS R x = false -> RRch w V b g c R N = RRch w V b g c R N' from fun h => by rw [hno h])
 have HCS := hid hCS
 have HYES := hid hyes
 clear hV hF hEL hCS hno hyes hce hN' Z h
 go_enter Tryz.func12, Tryz.ntmps12
 go_upto_region 1 with fail
 refine qab (fun w0 hw0 => ?_)
 have hA : RqcAt w V b g c R N x w0 := by rw [hw0]; exact HS.out
 clear hw0 HS
 have hck := HC.out w0
 rcases Bool.eq_false_or_eq_true (mayV x) with hm | hm
 case inr =>
  rw [hm] at hck
  have E : ce = 110 := by rw [HV.out, if_pos hm]
  subst E
  have hcs : certS R x = false := by rw [HCS.out, hm]; rfl
  have HNN := hid (HNO.out hcs)
  clear hcs hm
  go_wp2_with (first
   | (refine qaa rfl _ _ rfl (w.heap.size + 1) rfl _ _ _ _ hA.bx Tryz.underlying29 rfl crtInfo ?_)
   | (go_at_call 59; refine hck.mono ?_; unfold L11.gives; rintro e w1 ⟨rfl, hb1⟩))
  go_ret
  exact ⟨rfl, by rw [<- HNN.out]; exact (hA.below hb1).leaves⟩
 rw [hm] at hck
 go_upto_region 3 with (first
  | (refine qaa rfl _ _ rfl (w.heap.size + 1) rfl _ _ _ _ hA.bx Tryz.underlying29 rfl crtInfo ?_)
  | (go_at_call 59; refine hck.mono ?_; unfold L11.gives; rintro e w1 ⟨rfl, hb1⟩))
 have hA1 := hA.below hb1
 clear hA hb1 hck HC
 have c0 : w1.cell? ⟨w.heap.size + 1, 0, none⟩ = some (.int .i64 x.kind) := hA1.bx.cell 0
 by_cases hk : x.kind = 0
 ·have E : ce = 0 := by rw [HV.out, if_neg (by rw [hm]; decide), if_pos hk]
  subst E
  have hcs : certS R x = false := by rw [HCS.out, hk]; simp
  have HNN := hid (HNO.out hcs)
  have q0 : (x.kind == 0) = true := by simpa using hk
  clear hcs hk hm
  go_wp2_with fail
  go_ret
  exact ⟨rfl, by rw [<- HNN.out]; exact hA1.leaves⟩
 have q0 : (x.kind == 0) = false := by simpa using hk
 have HK := hid (And.intro hm hk)
 have c1 : w1.cell? ⟨w.heap.size + 1, 1, none⟩ = some (.int .i64 x.block) := hA1.bx.cell 1
 have hco := HCO.out w1 hA1
 obtain ⟨z, hz⟩ := nm (contV R.K x.block)
 rw [<- hz] at hco HF
 clear hz hk hm
 go_upto_region 6 with (first
  | (refine qaa rfl _ _ rfl w.heap.size rfl _ _ _ _ hA1.bl Tryz.underlying44 rfl rlawInfo ?_)
  | (go_at_call 20; refine hco.mono ?_; rintro e w2 ⟨P, T, rfl, hL2, hb2⟩
     obtain ⟨A2, n2, c2, D2, m2, d2, rfl, rfl⟩ := qcS hL2)
  | (refine qaf rfl _ _ _ rfl w2 (bloC z.1 (.slice A2 n2 c2) (.slice D2 m2 d2)) rfl rfl _ _ (bloInfo12 _ _ _) rfl (qaC _ _ _ _ _ _ _) ?_))
 have hb3 := (Below.refl _ w2).alloc (Nat.le_refl _) (.cells (bloC z.1 (.slice A2 n2 c2) (.slice D2 m2 d2)) 57)
 have kB := Blk.new w2 57 (bloC z.1 (.slice A2 n2 c2) (.slice D2 m2 d2))
 have hA3 := (hA1.below hb2).below hb3
 obtain ⟨G, hG⟩ := nm (w2.heap.size)
 rw [<- hG] at kB ⊢
 refine qab (fun w3 hw3 => ?_)
 rw [<- hw3] at kB hA3
 clear hw3 hG hb3 hb2 hL2 hA1 hco HCO c0 c1 q0
 by_cases hz0 : z.2 = 0
 case neg =>
  have hfe : fitE R x ≠ 0 := by rw [HF.out, if_pos hz0]; exact hz0
  have E : ce = z.2 := by rw [HV.out, if_neg (by rw [HK.out.1]; decide), if_neg HK.out.2, if_pos hfe, HF.out, if_pos hz0]
  subst E
  have hcs : certS R x = false := by rw [HCS.out]; simp [hfe]
  have HNN := hid (HNO.out hcs)
  have q1 : (z.2 != 0) = true := by simpa using hz0
  clear hcs hfe hz0
  go_wp2_with fail
  go_ret
  exact ⟨rfl, by rw [<- HNN.out]; exact hA3.leaves⟩
 have q1 : (z.2 != 0) = false := by simpa using hz0
 have hF2 : fitE R x = if fitsV x z.1 = true then 0 else 110 := by rw [HF.out, if_neg (fun h => h hz0)]
 have HF2 := hid hF2
 go_upto_region 8 with fail
 clear hF2 hz0 q1 HF
 have d0 : w3.cell? ⟨G, 0, none⟩ = some (.int .i64 z.1.view) := kB.cell 0
 have d1 : w3.cell? ⟨G, 1, none⟩ = some (.int .i64 z.1.round) := kB.cell 1
 have d2' : w3.cell? ⟨G, 2, none⟩ = some (.int .i64 z.1.height) := kB.cell 2
 have d3 : w3.cell? ⟨G, 3, none⟩ = some (.int .i64 z.1.author) := kB.cell 3
 have e0 : w3.cell? ⟨w.heap.size + 1, 0, none⟩ = some (.int .i64 x.kind) := hA3.bx.cell 0
 have e2 : w3.cell? ⟨w.heap.size + 1, 2, none⟩ = some (.int .i64 x.view) := hA3.bx.cell 2
 have e3 : w3.cell? ⟨w.heap.size + 1, 3, none⟩ = some (.int .i64 x.round) := hA3.bx.cell 3
 have e4 : w3.cell? ⟨w.heap.size + 1, 4, none⟩ = some (.int .i64 x.height) := hA3.bx.cell 4
 have e5 : w3.cell? ⟨w.heap.size + 1, 5, none⟩ = some (.int .i64 x.author) := hA3.bx.cell 5
 obtain ⟨y, hy⟩ := nm (z.1)
 rw [<- hy] at d0 d1 d2' d3 HF2
 clear hy kB
 by_cases h1 : y.view = x.view
 case neg =>
  have f1 : (y.view != x.view) = true := by simpa using h1
  have hfe : fitE R x = 110 := by rw [HF2.out, if_neg]; simp [fitsV, h1]
  have E : ce = 110 := by rw [HV.out, if_neg (by rw [HK.out.1]; decide), if_neg HK.out.2, if_pos (by rw [hfe]; decide), hfe]
  subst E
  have hcs : certS R x = false := by rw [HCS.out]; simp [hfe]
  have HNN := hid (HNO.out hcs)
  clear hcs hfe
  go_wp2_with fail
  go_ret
  exact ⟨rfl, by rw [<- HNN.out]; exact hA3.leaves⟩
 rw [h1] at d0
 by_cases h2 : y.round = x.round
 case neg =>
  have f2 : (y.round != x.round) = true := by simpa using h2
  have hfe : fitE R x = 110 := by rw [HF2.out, if_neg]; simp [fitsV, h1, h2]
  have E : ce = 110 := by rw [HV.out, if_neg (by rw [HK.out.1]; decide), if_neg HK.out.2, if_pos (by rw [hfe]; decide), hfe]
  subst E
  have hcs : certS R x = false := by rw [HCS.out]; simp [hfe]
  have HNN := hid (HNO.out hcs)
  clear hcs hfe
  go_wp2_with fail
  go_ret
  exact ⟨rfl, by rw [<- HNN.out]; exact hA3.leaves⟩
 rw [h2] at d1
 by_cases h3 : y.height = x.height
 case neg =>
  have f3 : (y.height != x.height) = true := by simpa using h3
  have hfe : fitE R x = 110 := by rw [HF2.out, if_neg]; simp [fitsV, h1, h2, h3]
  have E : ce = 110 := by rw [HV.out, if_neg (by rw [HK.out.1]; decide), if_neg HK.out.2, if_pos (by rw [hfe]; decide), hfe]
  subst E
  have hcs : certS R x = false := by rw [HCS.out]; simp [hfe]
  have HNN := hid (HNO.out hcs)
  clear hcs hfe
  go_wp2_with fail
  go_ret
  exact ⟨rfl, by rw [<- HNN.out]; exact hA3.leaves⟩
 rw [h3] at d2'
 by_cases hk2 : x.kind = 2
 case neg =>
  have f4 : (x.kind == 2) = false := by simpa using hk2
  have HFE := hid (show fitE R x = 0 by rw [HF2.out, if_pos]; simp [fitsV, h1, h2, h3, hk2])
  clear h1 h2 h3
  go_upto_region 10 with fail
  clear d0 d1 d2' d3 e0 e2 e3 e4 e5
  have hSd := hA3.below (Below.refl _ w3).drew
  have ne : Nonempty (qad (RqcAt w V b g c R N x)) := ⟨⟨_, hSd⟩⟩
  have p0 : ∀ y : qad (RqcAt w V b g c R N x), y.w.cell? ⟨w.heap.size, 1, none⟩ = some (.pointer (some ⟨g, 0, none⟩)) := fun y => y.h.bl.cell 1
  have p1 : ∀ y : qad (RqcAt w V b g c R N x), y.w.cell? ⟨w.heap.size + 1, 6, none⟩ = some (.int .u32 x.sg) := fun y => y.h.bx.cell 6
  have p2 : ∀ y : qad (RqcAt w V b g c R N x), y.w.cell? ⟨g, 0, none⟩ = some (.int .i64 R.f) := fun y => qiE y.h.tr
  obtain ⟨sg, hsg⟩ := nm (sigE R x)
  rw [<- hsg] at HE HV HCS HYES
  have HSG := hid hsg
  clear hsg
  obtain ⟨mq, hmq⟩ := nm (L4.more 2 R.f)
  rw [<- hmq] at HE HQ
  clear hmq
  refine qat (RqcAt w V b g c R N x) (by kernel_rfl) (by kernel_rfl) hSd ?_
  repeat (first
   | (refine qam rfl _ _ rfl (w.heap.size + 1) rfl _ _ _ _ (fun y => y.h.bx) Tryz.underlying29 rfl crtInfo ?_
      conv => arg 6; simp only [Act.put, sA, sB, sC])
   | (refine qaj rfl 61 _ _ rfl Tryz.call61 [.agg (crtC x)] rfl (v := .agg (stmC (stmV x))) (fun y => (HST.out y.w).mono fun e w' ⟨he, hb⟩ => ⟨he, y.h.below hb⟩) ?_
      conv => arg 6; simp only [Act.put, sA, sB, sC])
   | (refine qaj rfl 62 _ _ rfl Tryz.call62 [.int .i64 R.f] rfl (v := .int .i64 mq) (fun y => (HQ.out y.w).mono fun e w' ⟨he, hb⟩ => ⟨he, by rw [<- hb]; exact y.h⟩) ?_
      conv => arg 6; simp only [Act.put, sA, sB, sC])
   | (refine qaj rfl 60 _ _ rfl Tryz.call60 [.pointer (some ⟨g, 0, none⟩), .agg (stmC (stmV x)), .int .u32 x.sg, .int .i64 mq] rfl (v := .int .i64 sg) (fun y => (HE.out y.w y.h).mono fun e w' ⟨he, hb⟩ => ⟨he, y.h.below hb⟩) ?_
      conv => arg 6; simp only [Act.put, sA, sB, sC])
   | go_big_quiet_step (fail))
  refine wpQuiet_nil ?_
  intro yw
  obtain ⟨w4, hA4⟩ := yw
  dsimp only
  clear ne p0 p1 p2 hSd hA3 HST HQ HE
  have k0 : w4.cell? ⟨w.heap.size + 1, 0, none⟩ = some (.int .i64 x.kind) := hA4.bx.cell 0
  by_cases hs0 : sg = 0
  case neg =>
   have E : ce = sg := by rw [HV.out, if_neg (by rw [HK.out.1]; decide), if_neg HK.out.2, if_neg (fun h => h HFE.out), if_pos hs0]
   have hcs : certS R x = false := by rw [HCS.out]; simp [hs0]
   have HNN := hid (HNO.out hcs)
   have q1 : (sg != 0) = true := by simpa using hs0
   have HEE := hid E
   clear hcs hs0 E
   go_wp2_with fail
   go_ret
   exact ⟨by rw [HEE.out]; rfl, by rw [<- HNN.out]; exact hA4.leaves⟩
  subst hs0
  have hce : ce = elcE R x := by rw [HV.out, if_neg (by rw [HK.out.1]; decide), if_neg HK.out.2, if_neg (fun h => h HFE.out), if_neg (fun h => h rfl)]
  have HCE := hid hce
  clear hce
  have hk1 : x.kind = 1 := by
   have hm := HK.out.1
   have h0 := HK.out.2
   unfold L11.mayV at hm
   rw [if_neg h0] at hm
   by_cases h1 : x.kind = 1
   ·exact h1
   ·rw [if_neg h1, if_neg hk2] at hm; cases hm
  have q1 : (x.kind == 1) = true := by simpa using hk1
  have he : endV x = false := by unfold L11.endV; simp [hk2]
  have E : ce = 0 := by rw [HCE.out, HEL.out, if_pos he]
  have hcs : certS R x = false := by rw [HCS.out]; simp [he]
  have HNN := hid (HNO.out hcs)
  have HEE := hid E
  clear hcs he E
  clear hk2 hk1 f4
  go_wp2_with fail
  go_ret
  exact ⟨by rw [HEE.out]; rfl, by rw [<- HNN.out]; exact hA4.leaves⟩
 rw [hk2] at e0
 by_cases h5 : y.author = x.author
 case neg =>
  have f5 : (y.author != x.author) = true := by simpa using h5
  have hfe : fitE R x = 110 := by rw [HF2.out, if_neg]; simp [fitsV, h1, h2, h3, h5, hk2]
  have E : ce = 110 := by rw [HV.out, if_neg (by rw [HK.out.1]; decide), if_neg HK.out.2, if_pos (by rw [hfe]; decide), hfe]
  subst E
  have hcs : certS R x = false := by rw [HCS.out]; simp [hfe]
  have HNN := hid (HNO.out hcs)
  clear hcs hfe
  go_wp2_with fail
  go_ret
  exact ⟨rfl, by rw [<- HNN.out]; exact hA3.leaves⟩
 rw [h5] at d3
 have HFE := hid (show fitE R x = 0 by rw [HF2.out, if_pos]; simp [fitsV, h1, h2, h3, h5])
 clear h1 h2 h3 h5
 go_upto_region 10 with fail
 clear d0 d1 d2' d3 e0 e2 e3 e4 e5
 have hSd := hA3.below (Below.refl _ w3).drew
 have ne : Nonempty (qad (RqcAt w V b g c R N x)) := ⟨⟨_, hSd⟩⟩
 have p0 : ∀ y : qad (RqcAt w V b g c R N x), y.w.cell? ⟨w.heap.size, 1, none⟩ = some (.pointer (some ⟨g, 0, none⟩)) := fun y => y.h.bl.cell 1
 have p1 : ∀ y : qad (RqcAt w V b g c R N x), y.w.cell? ⟨w.heap.size + 1, 6, none⟩ = some (.int .u32 x.sg) := fun y => y.h.bx.cell 6
 have p2 : ∀ y : qad (RqcAt w V b g c R N x), y.w.cell? ⟨g, 0, none⟩ = some (.int .i64 R.f) := fun y => qiE y.h.tr
 obtain ⟨sg, hsg⟩ := nm (sigE R x)
 rw [<- hsg] at HE HV HCS HYES
 have HSG := hid hsg
 clear hsg
 obtain ⟨mq, hmq⟩ := nm (L4.more 2 R.f)
 rw [<- hmq] at HE HQ
 clear hmq
 refine qat (RqcAt w V b g c R N x) (by kernel_rfl) (by kernel_rfl) hSd ?_
 repeat (first
  | (refine qam rfl _ _ rfl (w.heap.size + 1) rfl _ _ _ _ (fun y => y.h.bx) Tryz.underlying29 rfl crtInfo ?_
     conv => arg 6; simp only [Act.put, sA, sB, sC])
  | (refine qaj rfl 61 _ _ rfl Tryz.call61 [.agg (crtC x)] rfl (v := .agg (stmC (stmV x))) (fun y => (HST.out y.w).mono fun e w' ⟨he, hb⟩ => ⟨he, y.h.below hb⟩) ?_
     conv => arg 6; simp only [Act.put, sA, sB, sC])
  | (refine qaj rfl 62 _ _ rfl Tryz.call62 [.int .i64 R.f] rfl (v := .int .i64 mq) (fun y => (HQ.out y.w).mono fun e w' ⟨he, hb⟩ => ⟨he, by rw [<- hb]; exact y.h⟩) ?_
     conv => arg 6; simp only [Act.put, sA, sB, sC])
  | (refine qaj rfl 60 _ _ rfl Tryz.call60 [.pointer (some ⟨g, 0, none⟩), .agg (stmC (stmV x)), .int .u32 x.sg, .int .i64 mq] rfl (v := .int .i64 sg) (fun y => (HE.out y.w y.h).mono fun e w' ⟨he, hb⟩ => ⟨he, y.h.below hb⟩) ?_
     conv => arg 6; simp only [Act.put, sA, sB, sC])
  | go_big_quiet_step (fail))
 refine wpQuiet_nil ?_
 intro yw
 obtain ⟨w4, hA4⟩ := yw
 dsimp only
 clear ne p0 p1 p2 hSd hA3 HST HQ HE
 have k0 : w4.cell? ⟨w.heap.size + 1, 0, none⟩ = some (.int .i64 x.kind) := hA4.bx.cell 0
 by_cases hs0 : sg = 0
 case neg =>
  have E : ce = sg := by rw [HV.out, if_neg (by rw [HK.out.1]; decide), if_neg HK.out.2, if_neg (fun h => h HFE.out), if_pos hs0]
  have hcs : certS R x = false := by rw [HCS.out]; simp [hs0]
  have HNN := hid (HNO.out hcs)
  have q1 : (sg != 0) = true := by simpa using hs0
  have HEE := hid E
  clear hcs hs0 E
  go_wp2_with fail
  go_ret
  exact ⟨by rw [HEE.out]; rfl, by rw [<- HNN.out]; exact hA4.leaves⟩
 subst hs0
 have hce : ce = elcE R x := by rw [HV.out, if_neg (by rw [HK.out.1]; decide), if_neg HK.out.2, if_neg (fun h => h HFE.out), if_neg (fun h => h rfl)]
 have HCE := hid hce
 clear hce
 rw [hk2] at k0
 have k7 : w4.cell? ⟨w.heap.size + 1, 7, none⟩ = some (.int .u32 x.co) := hA4.bx.cell 7
 by_cases hc0 : x.co = 0
 ·have q1 : ((x.co : Int) == 0) = true := by simpa using hc0
  have he : endV x = false := by unfold L11.endV; simp [hc0]
  have E : ce = 0 := by rw [HCE.out, HEL.out, if_pos he]
  have hcs : certS R x = false := by rw [HCS.out]; simp [he]
  have HNN := hid (HNO.out hcs)
  have HEE := hid E
  clear hcs he E
  clear hc0 hk2
  go_wp2_with fail
  go_ret
  exact ⟨by rw [HEE.out]; rfl, by rw [<- HNN.out]; exact hA4.leaves⟩
 have he : endV x = true := by unfold L11.endV; simp [hk2, hc0]
 have hn : N' = seeN R.f R.f R.bad R.L N x.view x.co := HYES.out HK.out.1 HK.out.2 HFE.out rfl he
 have q1 : ((x.co : Int) == 0) = false := by simpa using hc0
 have hsee := HSE.out w4 hA4
 rw [<- hn] at hsee
 have hel : ce = if coE R x ≠ 0 then coE R x else if L7.whoV R.f R.G x.view = x.author then 0 else 70 := by rw [HCE.out, HEL.out, if_neg (by rw [he]; decide)]
 have hwv : seeW R.f R.f R.bad R.L R.G x.view x.co = if coE R x = 0 then L7.whoV R.f R.G x.view else 0 := rfl
 have hcoe : seeE R.f R.f R.bad R.L x.view x.co = coE R x := rfl
 rw [hcoe, hwv] at hsee
 obtain ⟨co, hcoq⟩ := nm (coE R x)
 obtain ⟨who, hwho⟩ := nm (L7.whoV R.f R.G x.view)
 rw [<- hcoq, <- hwho] at hsee hel
 have HLL := hid hel
 have k2 : w4.cell? ⟨w.heap.size + 1, 2, none⟩ = some (.int .i64 x.view) := hA4.bx.cell 2
 have l1 : w4.cell? ⟨w.heap.size, 1, none⟩ = some (.pointer (some ⟨g, 0, none⟩)) := hA4.bl.cell 1
 have l2 : w4.cell? ⟨w.heap.size, 2, none⟩ = some (.pointer (some ⟨c, 0, none⟩)) := hA4.bl.cell 2
 clear hel hcoq hwho hwv hcoe hn he hc0 hk2
 by_cases hco0 : co = 0
 case neg =>
  have E : ce = co := by rw [HLL.out, if_pos hco0]
  rw [if_neg hco0] at hsee
  have q2 : (co == 0) = false := by simpa using hco0
  have HEE := hid E
  clear E hco0
  go_wp2_with (first
   | (go_at_call 63; refine hsee.mono ?_; rintro e w5 ⟨rfl, h5⟩))
  go_ret
  exact ⟨by rw [HEE.out]; rfl, RRch.then (L6.Turn.of_keep hA4.bw) (fun _ => .inl) h5⟩
 subst hco0
 rw [if_pos rfl] at hsee
 have HX5 : Hid (∀ W', Blk w4 (w.heap.size + 1) 29 (crtC x) -> RRch w4 V b g c R N' W' -> W'.cell? ⟨w.heap.size + 1, 5, none⟩ = some (.int .i64 x.author)) := hid (fun W' hb h => (h.tn.blk hb (HFAR.out)).cell 5)
 by_cases hwa : who = x.author
 ·have E : ce = 0 := by rw [HLL.out, if_neg (fun h => h rfl), if_pos hwa]
  have q3 : (who != x.author) = false := by simpa using hwa
  have HEE := hid E
  clear E hwa
  go_wp2_with (first
   | (go_at_call 63; refine hsee.mono ?_; rintro e w5 ⟨rfl, h5⟩
      have k5 := HX5.out w5 hA4.bx h5))
  go_ret
  exact ⟨by rw [HEE.out]; rfl, RRch.then (L6.Turn.of_keep hA4.bw) (fun _ => .inl) h5⟩
 ·have E : ce = 70 := by rw [HLL.out, if_neg (fun h => h rfl), if_neg hwa]
  have q3 : (who != x.author) = true := by simpa using hwa
  have HEE := hid E
  clear E hwa
  go_wp2_with (first
   | (go_at_call 63; refine hsee.mono ?_; rintro e w5 ⟨rfl, h5⟩
      have k5 := HX5.out w5 hA4.bx h5))
  go_ret
  exact ⟨by rw [HEE.out]; rfl, RRch.then (L6.Turn.of_keep hA4.bw) (fun _ => .inl) h5⟩
end Go.Proofs.YtomaaidhmccngaaGreatDoor
namespace Go.Proofs.YtomaaidhmccngaaGreatDoor
open Go.RowKit Go.Maps Go.Lib
open L3 (Blk Reads)
open L6 (Turn moreB)
open L7 (Shr shrC)
open L11 (Crt zeroC crtC crtL crtInfo qal mayV endV stmC stmV qaj wpList_store_row qac below_setRow qah)
structure RqtAt (w : World) (V : Nat -> Prop) (b g c : Nat) (R : Regs) (N : List Int) (t : Tmo) (W : World) : Prop where
 bl : Blk W w.heap.size 44 (lawA (some ⟨b, 0, none⟩) (some ⟨g, 0, none⟩) (some ⟨c, 0, none⟩))
 bt : Blk W (w.heap.size + 1) 31 (tmC t)
 tr : RTrio V b g c R N W
 bw : Below w.heap.size w W
theorem RqtAt.below {w W W' : World} {V : Nat -> Prop} {b g c : Nat} {R : Regs} {N : List Int} {t : Tmo} (h : RqtAt w V b g c R N t W) (hb : Below W.heap.size W W') : RqtAt w V b g c R N t W' := ⟨h.bl.below hb h.bl.lt, h.bt.below hb h.bt.lt, h.tr.below hb, nxt h.bw hb⟩
theorem RqtAt.leaves {w W : World} {V : Nat -> Prop} {b g c : Nat} {R : Regs} {N : List Int} {t : Tmo} (h : RqtAt w V b g c R N t W) : RRch w V b g c R N W := ⟨⟨V, h.tr, fun _ => .inl⟩, L6.Turn.of_keep h.bw⟩
theorem qj4 {V : Nat -> Prop} {b g c : Nat} {R : Regs} {N : List Int} (t : Tmo) (w : World) (h : RTrio V b g c R N w) (hw : R.wf) (ht : t.wf) (hN : N.length <= 100000000) :
 Calls Tryz.prog 14 #[.agg (lawA (some ⟨b, 0, none⟩) (some ⟨g, 0, none⟩) (some ⟨c, 0, none⟩)), .agg (tmC t)] w fun e W' => e = .returned (.int .i64 (timE R t)) /\ RRch w V b g c R (timN R N t) W' := by
 have Z := qcv w 44 31 (lawA (some ⟨b, 0, none⟩) (some ⟨g, 0, none⟩) (some ⟨c, 0, none⟩)) (tmC t)
 have HS := hid (show RqtAt w V b g c R N t _ from ⟨Z.1, Z.2.1, h.below Z.2.2, Z.2.2⟩)
 have HK := hid (fun W (hA : RqtAt w V b g c R N t W) => show Calls Tryz.prog 69 #[.pointer (some ⟨g, 0, none⟩), .agg (shrC (shrOf t.signer (stmT t)))] W (gives (.int .i64 (sgnE R t)) W) from qhO hA.tr hw (shrOf t.signer (stmT t)) ⟨ht.1, toS_wf (qmH ht)⟩)
 have HCE := hid (fun W (hA : RqtAt w V b g c R N t W) => qh8 t.high W hA.tr hw ht.2.2 hN)
 have hV : timE R t = if tmoV t = false then 121 else if sgnE R t ≠ 0 then sgnE R t else certE R t.high := rfl
 have hN' : timN R N t = if tmoV t = false then N else if sgnE R t ≠ 0 then N else certN R N t.high := rfl
 rw [hV, hN']
 have hck := fun W => qfq t W ht
 have HSI := hid (fun W => qgF t W)
 have HBU := hid (fun W => qel t.signer (stmT t) W)
 clear hV hN' h hw Z
 rcases Bool.eq_false_or_eq_true (tmoV t) with hm | hm
 case inr =>
  rw [hm] at hck
  rw [if_pos hm, if_pos hm]
  clear hm HCE
  go_enter Tryz.func14, Tryz.ntmps14
  go_upto_region 1 with fail
  refine qab (fun w0 hw0 => ?_)
  have hA : RqtAt w V b g c R N t w0 := by rw [hw0]; exact HS.out
  clear hw0 HS
  go_wp2_with (first
   | (refine qaa rfl _ _ rfl (w.heap.size + 1) rfl _ _ _ _ hA.bt Tryz.underlying31 rfl (tmInfo12 _) ?_)
   | (go_at_call 38; refine (hck _).mono ?_; unfold gives; rintro e w1 ⟨rfl, hb1⟩))
  go_ret
  exact ⟨rfl, (hA.below hb1).leaves⟩
 rw [hm] at hck
 have hmf : ¬ (tmoV t = false) := by rw [hm]; decide
 rw [if_neg hmf, if_neg hmf]
 clear hmf
 obtain ⟨sg, hsg⟩ := nm (sgnE R t)
 rw [<- hsg] at HK ⊢
 have HCK := hid hck
 obtain ⟨ms, hms⟩ := nm (stmC (stmT t))
 obtain ⟨ss, hss⟩ := nm (shrC (shrOf t.signer (stmT t)))
 rw [<- hms] at HSI
 have hbu : ∀ W, (Instr.build 75 #[(0, .int .i64 t.signer), (1, .agg ms)]).run Tryz.prog W = .ok (.agg ss) W := fun W => by rw [hms, hss]; exact HBU.out W
 rw [<- hss] at HK
 have HB2 := hid hbu
 clear hm hsg hck hms hss hbu HBU ht hN
 by_cases hs0 : sg = 0
 ·rw [if_neg (fun h => h hs0), if_neg (fun h => h hs0)]
  have q1 : (sg != 0) = false := by simpa using hs0
  obtain ⟨ce, hce⟩ := nm (certE R t.high)
  obtain ⟨cn, hcn⟩ := nm (certN R N t.high)
  rw [<- hce, <- hcn] at HCE ⊢
  clear hs0 hce hcn
  go_enter Tryz.func14, Tryz.ntmps14
  go_upto_region 1 with fail
  refine qab (fun w0 hw0 => ?_)
  have hA : RqtAt w V b g c R N t w0 := by rw [hw0]; exact HS.out
  clear hw0 HS
  go_upto_region 3 with (first
   | (refine qaa rfl _ _ rfl (w.heap.size + 1) rfl _ _ _ _ hA.bt Tryz.underlying31 rfl (tmInfo12 _) ?_)
   | (go_at_call 38; refine (HCK.out _).mono ?_; unfold gives; rintro e w1 ⟨rfl, hb1⟩))
  have hSd := (hA.below hb1).below (Below.refl _ w1).drew
  have ne : Nonempty (qad (RqtAt w V b g c R N t)) := ⟨⟨_, hSd⟩⟩
  have p0 : ∀ y : qad (RqtAt w V b g c R N t), y.w.cell? ⟨w.heap.size, 1, none⟩ = some (.pointer (some ⟨g, 0, none⟩)) := fun y => y.h.bl.cell 1
  have p1 : ∀ y : qad (RqtAt w V b g c R N t), y.w.cell? ⟨w.heap.size + 1, 0, none⟩ = some (.int .i64 t.signer) := fun y => y.h.bt.cell 0
  refine qat (RqtAt w V b g c R N t) (by kernel_rfl) (by kernel_rfl) hSd ?_
  repeat (first
   | (refine qam rfl _ _ rfl (w.heap.size + 1) rfl _ _ _ _ (fun y => y.h.bt) Tryz.underlying31 rfl (tmInfo12 _) ?_
      conv => arg 6; simp only [Act.put, sA, sB, sC])
   | (refine qaj rfl 70 _ _ rfl Tryz.call70 [.agg (tmC t)] rfl (v := .agg ms) (fun y => (HSI.out y.w).mono fun e w' ⟨he, hb⟩ => ⟨he, y.h.below hb⟩) ?_
      conv => arg 6; simp only [Act.put, sA, sB, sC])
   | (refine qa5 rfl _ _ rfl #[(0, .int .i64 t.signer), (1, .agg ms)] rfl (v := .agg ss) (fun W => HB2.out W) ?_
      conv => arg 6; simp only [Act.put, sA, sB, sC])
   | (refine qaj rfl 69 _ _ rfl Tryz.call69 [.pointer (some ⟨g, 0, none⟩), .agg ss] rfl (v := .int .i64 sg) (fun y => (HK.out y.w y.h).mono fun e w' ⟨he, hb⟩ => ⟨he, y.h.below hb⟩) ?_
      conv => arg 6; simp only [Act.put, sA, sB, sC])
   | go_big_quiet_step (fail))
  refine wpQuiet_nil ?_
  intro yw
  obtain ⟨w4, hA4⟩ := yw
  dsimp only
  clear ne p0 p1 hSd hA hb1
  have hcx := HCE.out w4 hA4
  have hsub := qbj hA4.bt (qfc t)
  go_wp2_with (first
   | (refine qaa rfl _ _ rfl w.heap.size rfl _ _ _ _ hA4.bl Tryz.underlying44 rfl rlawInfo ?_)
   | (refine qai rfl _ _ rfl ⟨w.heap.size + 1, 2, none⟩ rfl (crtL t.high) _ hsub Tryz.underlying29 rfl crtInfo ?_)
   | (go_at_call 12; refine hcx.mono ?_; rintro e w5 ⟨rfl, h5⟩))
  go_ret
  exact ⟨rfl, RRch.then (L6.Turn.of_keep hA4.bw) (fun _ => .inl) h5⟩
 ·rw [if_pos hs0, if_pos hs0]
  have q1 : (sg != 0) = true := by simpa using hs0
  clear hs0 HCE
  go_enter Tryz.func14, Tryz.ntmps14
  go_upto_region 1 with fail
  refine qab (fun w0 hw0 => ?_)
  have hA : RqtAt w V b g c R N t w0 := by rw [hw0]; exact HS.out
  clear hw0 HS
  go_upto_region 3 with (first
   | (refine qaa rfl _ _ rfl (w.heap.size + 1) rfl _ _ _ _ hA.bt Tryz.underlying31 rfl (tmInfo12 _) ?_)
   | (go_at_call 38; refine (HCK.out _).mono ?_; unfold gives; rintro e w1 ⟨rfl, hb1⟩))
  have hSd := (hA.below hb1).below (Below.refl _ w1).drew
  have ne : Nonempty (qad (RqtAt w V b g c R N t)) := ⟨⟨_, hSd⟩⟩
  have p0 : ∀ y : qad (RqtAt w V b g c R N t), y.w.cell? ⟨w.heap.size, 1, none⟩ = some (.pointer (some ⟨g, 0, none⟩)) := fun y => y.h.bl.cell 1
  have p1 : ∀ y : qad (RqtAt w V b g c R N t), y.w.cell? ⟨w.heap.size + 1, 0, none⟩ = some (.int .i64 t.signer) := fun y => y.h.bt.cell 0
  refine qat (RqtAt w V b g c R N t) (by kernel_rfl) (by kernel_rfl) hSd ?_
  repeat (first
   | (refine qam rfl _ _ rfl (w.heap.size + 1) rfl _ _ _ _ (fun y => y.h.bt) Tryz.underlying31 rfl (tmInfo12 _) ?_
      conv => arg 6; simp only [Act.put, sA, sB, sC])
   | (refine qaj rfl 70 _ _ rfl Tryz.call70 [.agg (tmC t)] rfl (v := .agg ms) (fun y => (HSI.out y.w).mono fun e w' ⟨he, hb⟩ => ⟨he, y.h.below hb⟩) ?_
      conv => arg 6; simp only [Act.put, sA, sB, sC])
   | (refine qa5 rfl _ _ rfl #[(0, .int .i64 t.signer), (1, .agg ms)] rfl (v := .agg ss) (fun W => HB2.out W) ?_
      conv => arg 6; simp only [Act.put, sA, sB, sC])
   | (refine qaj rfl 69 _ _ rfl Tryz.call69 [.pointer (some ⟨g, 0, none⟩), .agg ss] rfl (v := .int .i64 sg) (fun y => (HK.out y.w y.h).mono fun e w' ⟨he, hb⟩ => ⟨he, y.h.below hb⟩) ?_
      conv => arg 6; simp only [Act.put, sA, sB, sC])
   | go_big_quiet_step (fail))
  refine wpQuiet_nil ?_
  intro yw
  obtain ⟨w4, hA4⟩ := yw
  dsimp only
  clear ne p0 p1 hSd hA hb1
  go_wp2_with fail
  go_ret
  exact ⟨rfl, hA4.leaves⟩
end Go.Proofs.YtomaaidhmccngaaGreatDoor
namespace Go.Proofs.YtomaaidhmccngaaGreatDoor
open Go.RowKit Go.Maps Go.Lib
open L3 (Blk Reads)
open L6 (Turn moreB)
open L4 (more)
open L7 (Shr shrC)
open L11 (Crt zeroC crtC qaj wpList_store_row qac below_setRow qah)
theorem bang_p {p : List Tmo} {k : Nat} (h : k < p.length) : p[k]! = p[k] := getElem!_pos p k h
structure RqpAt (w : World) (V : Nat -> Prop) (b g c : Nat) (R : Regs) (N : List Int) (A : Option Addr) (p : List Tmo) (W : World) : Prop where
 bl : Blk W w.heap.size 44 (lawA (some ⟨b, 0, none⟩) (some ⟨g, 0, none⟩) (some ⟨c, 0, none⟩))
 rp : Rd tmL 10 W A p
 tr : RTrio V b g c R N W
 bw : Below w.heap.size w W
theorem RqpAt.below {w W W' : World} {V : Nat -> Prop} {b g c : Nat} {R : Regs} {N : List Int} {A : Option Addr} {p : List Tmo} (h : RqpAt w V b g c R N A p W) (hb : Below W.heap.size W W') : RqpAt w V b g c R N A p W' := ⟨h.bl.below hb h.bl.lt, h.rp.below hb, h.tr.below hb, nxt h.bw hb⟩
theorem RqpAt.drew {w W : World} {V : Nat -> Prop} {b g c : Nat} {R : Regs} {N : List Int} {A : Option Addr} {p : List Tmo} (h : RqpAt w V b g c R N A p W) : RqpAt w V b g c R N A p W.drew := h.below (Below.refl _ W).drew
theorem RqpAt.leaves {w W : World} {V : Nat -> Prop} {b g c : Nat} {R : Regs} {N : List Int} {A : Option Addr} {p : List Tmo} (h : RqpAt w V b g c R N A p W) : RRch w V b g c R N W := ⟨⟨V, h.tr, fun _ => .inl⟩, L6.Turn.of_keep h.bw⟩
structure RqeAt (w : World) (b g c : Nat) (A : Option Addr) (p : List Tmo) (W : World) : Prop where
 bl : Blk W w.heap.size 44 (lawA (some ⟨b, 0, none⟩) (some ⟨g, 0, none⟩) (some ⟨c, 0, none⟩))
 rp : Rd tmL 10 W A p
theorem RqeAt.below {w W W' : World} {b g c : Nat} {A : Option Addr} {p : List Tmo} (h : RqeAt w b g c A p W) (hb : Below W.heap.size W W') : RqeAt w b g c A p W' := ⟨h.bl.below hb h.bl.lt, h.rp.below hb⟩
theorem RqeAt.turn {w W W' : World} {V : Nat -> Prop} {b g c : Nat} {A : Option Addr} {p : List Tmo} (h : RqeAt w b g c A p W) (ht : Turn V W W') (hl : ¬ V w.heap.size) (ho : p.length ≠ 0 -> Off V A) : RqeAt w b g c A p W' := ⟨ht.blk h.bl hl, h.rp.kept2 ht ho⟩
theorem qhe (R : Regs) (N : List Int) (x : Crt) : (certN R N x).length <= N.length + 1 := by
 unfold certN L7.putN
 split
 ·split <;> simp
 ·omega
theorem qgP (R : Regs) (N : List Int) (t : Tmo) : (timN R N t).length <= N.length + 1 := by
 unfold timN
 split
 ·omega
 ·split
  ·omega
  ·exact qhe R N t.high
theorem rpro_any {V : Nat -> Prop} {b g c : Nat} {R : Regs} {N : List Int} (v : Int) (A : Option Addr) (cp : Nat) (p : List Tmo) (w : World) (h : RTrio V b g c R N w) (hw : R.wf) (hp : Rd tmL 10 w A p) (hwf : ∀ t ∈ p, t.wf) (hl : p.length <= 1000) (hN : N.length <= 1000000) (ho : p.length ≠ 0 -> Off V A) :
 Calls Tryz.prog 16 #[.agg (lawA (some ⟨b, 0, none⟩) (some ⟨g, 0, none⟩) (some ⟨c, 0, none⟩)), .int .i64 v, .slice A p.length cp] w fun e W' => e = .returned (.int .i64 (proE R v p)) /\ RRch w V b g c R (proN R N v p) W' := by
 have hb0 := (Below.refl _ w).alloc (Nat.le_refl _) (.cells (lawA (some ⟨b, 0, none⟩) (some ⟨g, 0, none⟩) (some ⟨c, 0, none⟩)) 44)
 have HS := hid (show RqpAt w V b g c R N A p _ from ⟨Blk.new w 44 (lawA (some ⟨b, 0, none⟩) (some ⟨g, 0, none⟩) (some ⟨c, 0, none⟩)), hp.below hb0, h.below hb0, hb0⟩)
 have HFAR := hid (show ¬ V w.heap.size from fun hv => by have := h.inV _ hv; omega)
 have HQ := hid (fun W => L4.qdW R.f W (by have := L4.qbP hw.hf; omega) (by have := L4.qbP hw.hf; omega))
 have HW := hid (And.intro hw (And.intro hwf (And.intro hN ho)))
 have hV : proE R v p = if risV v p = false then 121 else if eachE R p ≠ 0 then eachE R p else if (p.length : Int) < more 2 R.f then 61 else 0 := rfl
 have hNN : proN R N v p = if risV v p = false then N else eachN R N p := rfl
 obtain ⟨pe, hpe⟩ := nm (proE R v p)
 obtain ⟨pn, hpn⟩ := nm (proN R N v p)
 rw [<- hpe, <- hpn]
 rw [<- hpe] at hV
 rw [<- hpn] at hNN
 have HV := hid (And.intro hV hNN)
 obtain ⟨n, hn⟩ := nm (p.length)
 rw [<- hn] at hl ⊢
 have HNL := hid hn
 clear hV hNN hpe hpn hn h hw hp hwf hN ho hb0
 go_enter Tryz.func16, Tryz.ntmps16
 go_upto_region 1 with fail
 refine qab (fun w0 hw0 => ?_)
 have hA : RqpAt w V b g c R N A p w0 := by rw [hw0]; exact HS.out
 clear hw0 HS
 go_wp2
 go_loopw [7] (fun i wr => ∃ k : Nat, i = .int .i64 k /\ k <= n /\ Hid (∀ j, j < k -> okR v p j = true) /\ RqpAt w V b g c R N A p wr) (fun i _ => n - (RowKit.intOf i).toNat)
 case atStart => exact ⟨0, rfl, Nat.zero_le _, hid (fun j hj => absurd hj (by omega)), hA⟩
 case round =>
  obtain ⟨k, rfl, hk, hno, hP⟩ := hrel
  clear hA
  by_cases hlt : k < n
  ·have hkL : k < p.length := by have := HNL.out; omega
   obtain ⟨ad, e', hadl, hcs⟩ := hP.rp k hkL
   subst e'
   have HA1 : Hid (∀ z : qad (RqpAt w V b g c R N (some ad) p), ∀ j u, (tmL p[k])[j]? = some u -> z.w.cell? ((ad.add (k * 10)).add j) = some u) := hid (fun z => z.h.rp.at_ hkL)
   have hbang := bang_p hkL
   obtain ⟨x, hxe⟩ := nm (p[k])
   rw [<- hxe] at HA1 hbang
   have hok : okR v p k = (decide (x.view = v) && (decide (k = 0) || decide ((p[k - 1]!).signer < x.signer))) := by unfold okR; rw [hbang]
   have k0 : ∀ z : qad (RqpAt w V b g c R N (some ad) p), z.w.cell? ((ad.add (k * 10)).add 0) = some (.int .i64 x.signer) := fun z => HA1.out z 0 _ rfl
   have k0' : ∀ z : qad (RqpAt w V b g c R N (some ad) p), z.w.cell? (ad.add (k * 10)) = some (.int .i64 x.signer) := fun z => by simpa [Addr.add] using k0 z
   have k1 : ∀ z : qad (RqpAt w V b g c R N (some ad) p), z.w.cell? ((ad.add (k * 10)).add 1) = some (.int .i64 x.view) := fun z => HA1.out z 1 _ rfl
   have k1a : ∀ z : qad (RqpAt w V b g c R N (some ad) p), z.w.cell? (ad.add (k * 10 + 1)) = some (.int .i64 x.view) := fun z => by have := k1 z; rw [Addr.add_add] at this; exact this
   have k1c : ∀ z : qad (RqpAt w V b g c R N (some ad) p), z.w.cell? { block := (ad.add (k * 10)).block, off := (ad.add (k * 10)).off + 1 } = some (.int .i64 x.view) := fun z => k1 z
   have HK := hid hkL
   have HBG : Hid (∀ j, j < k -> ∀ z : qad (RqpAt w V b g c R N (some ad) p), z.w.cell? (ad.add (j * 10)) = some (.int .i64 (p[j]!).signer)) := hid (fun j hj z => by
    have hjL : j < p.length := by omega
    have := z.h.rp.at_ hjL 0 _ rfl
    rw [bang_p hjL]
    simpa [Addr.add] using this)
   clear hcs hxe hkL hbang hadl
   go_upto_region 4 with fail
   have ne : Nonempty (qad (RqpAt w V b g c R N (some ad) p)) := ⟨⟨_, hP.drew⟩⟩
   refine qat (RqpAt w V b g c R N (some ad) p) (by kernel_rfl) (by kernel_rfl) hP.drew ?_
   clear hP
   by_cases h2 : x.view = v
   case neg =>
    have E : Hid (pe = 121 /\ pn = N) := hid (by
     have hr : risV v p = false := qj2 HK.out (by rw [hok, decide_eq_false h2]; rfl)
     exact ⟨by rw [HV.out.1, if_pos hr], by rw [HV.out.2, if_pos hr]⟩)
    have q2 : (x.view != v) = true := by simpa using h2
    clear hok h2 HBG
    repeat go_big_quiet_step (fail)
    refine wpQuiet_nil ?_
    intro z
    obtain ⟨W, hW⟩ := z
    dsimp only
    clear ne
    go_wp2
    go_ret
    exact ⟨by rw [E.out.1]; rfl, by rw [E.out.2]; exact hW.leaves⟩
   have q2 : (x.view != v) = false := by simpa using h2
   rw [decide_eq_true h2, Bool.true_and] at hok
   clear h2
   by_cases hk0 : 0 < k
   case neg =>
    have hrt : Hid (okR v p k = true) := hid (by rw [hok, decide_eq_true (by omega)]; rfl)
    clear hok HBG
    repeat go_big_quiet_step (fail)
    refine wpQuiet_nil ?_
    intro z
    obtain ⟨W, hW⟩ := z
    dsimp only
    clear ne
    go_wp2
    go_roundw
    case rel =>
     refine ⟨k + 1, by go_num, by omega, hid (fun j hj => ?_), hW⟩
     obtain rfl : j = k := by omega
     exact hrt.out
    case measure => simp [RowKit.intOf]; omega
   obtain ⟨j, rfl⟩ : ∃ j, k = j + 1 := ⟨k - 1, by omega⟩
   have kp := HBG.out j (by omega)
   obtain ⟨pv, hpv2⟩ := nm ((p[j]!).signer)
   have ej : j + 1 - 1 = j := by omega
   rw [decide_eq_false (by omega), Bool.false_or, ej, <- hpv2] at hok
   rw [<- hpv2] at kp
   clear HBG hpv2 ej
   by_cases h3 : pv < x.signer
   case neg =>
    have E : Hid (pe = 121 /\ pn = N) := hid (by
     have hr : risV v p = false := qj2 HK.out (by rw [hok, decide_eq_false h3])
     exact ⟨by rw [HV.out.1, if_pos hr], by rw [HV.out.2, if_pos hr]⟩)
    have q3 : x.signer <= pv := by omega
    clear hok h3
    repeat go_big_quiet_step (fail)
    refine wpQuiet_nil ?_
    intro z
    obtain ⟨W, hW⟩ := z
    dsimp only
    clear ne
    go_wp2
    go_ret
    exact ⟨by rw [E.out.1]; rfl, by rw [E.out.2]; exact hW.leaves⟩
   have hrt : Hid (okR v p (j + 1) = true) := hid (by rw [hok, decide_eq_true h3])
   have q3 : ¬ x.signer <= pv := by omega
   clear hok h3
   repeat go_big_quiet_step (fail)
   refine wpQuiet_nil ?_
   intro z
   obtain ⟨W, hW⟩ := z
   dsimp only
   clear ne
   go_wp2
   go_roundw
   case rel =>
    refine ⟨j + 2, by go_num, by omega, hid (fun i hi => ?_), hW⟩
    rcases Nat.lt_or_ge i (j + 1) with h | h
    ·exact hno.out i h
    ·obtain rfl : i = j + 1 := by omega
     exact hrt.out
   case measure => simp [RowKit.intOf]; omega
  ·have hris : risV v p = true := qmw (fun j hj => hno.out j (by have := HNL.out; omega))
   have HV2 := hid (show (pe = if eachE R p ≠ 0 then eachE R p else if (p.length : Int) < more 2 R.f then 61 else 0) /\ pn = eachN R N p by
    have hf : ¬ risV v p = false := by rw [hris]; decide
    exact ⟨by rw [HV.out.1, if_neg hf], by rw [HV.out.2, if_neg hf]⟩)
   clear hris hno HV
   obtain ⟨w2, hw2⟩ := nm (wr)
   subst hw2
   have HE0 := hid (show RqeAt w b g c A p w2 from ⟨hP.bl, hP.rp⟩)
   have HBW := hid hP.bw
   have hR0 : RRch w2 V b g c R N w2 := RRch.start hP.tr
   clear hP
   go_wp2
   clear hlt
   go_loopw [8] (fun i wr => ∃ (k : Nat) (M : List Int), i = .int .i64 k /\ k <= n /\ Hid (eachE R p = eachE R (p.drop k) /\ eachN R N p = eachN R M (p.drop k) /\ M.length <= N.length + k) /\ RRch w2 V b g c R M wr) (fun i _ => n - (RowKit.intOf i).toNat)
   case atStart => exact ⟨0, N, rfl, Nat.zero_le _, hid ⟨rfl, rfl, Nat.le_refl _⟩, hR0⟩
   case round =>
    obtain ⟨q, M, rfl, hq, hok, hch⟩ := hrel
    clear hR0
    have hE := HE0.out.turn hch.tn HFAR.out HW.out.2.2.2
    by_cases hlt : q < n
    ·have hkL : q < p.length := by have := HNL.out; omega
     obtain ⟨ad, e', hadl, hcs⟩ := hE.rp q hkL
     subst e'
     have htw := HW.out.2.1 _ (List.getElem_mem hkL)
     have hdr : p.drop q = p[q] :: p.drop (q + 1) := List.drop_eq_getElem_cons hkL
     have HA1 : Hid (∀ z : qad (RqeAt w b g c (some ad) p), ∀ j u, (tmL p[q])[j]? = some u -> z.w.cell? ((ad.add (q * 10)).add j) = some u) := hid (fun z => z.h.rp.at_ hkL)
     obtain ⟨t, ht⟩ := nm (p[q])
     rw [<- ht] at htw hdr HA1
     have hE1 := hok.out.1
     have hE2 := hok.out.2.1
     rw [hdr, qfM] at hE1
     rw [hdr, qeq] at hE2
     have hML : M.length <= 100000000 := by have := hok.out.2.2; have := HW.out.2.2.1; omega
     have HE := hid (And.intro hE1 (And.intro hE2 hok.out.2.2))
     obtain ⟨V', hV', hVs⟩ := hch.ex
     have htn := hch.tn
     have hAd := hE.below (Below.refl _ wr).drew
     have hTd := qj4 t wr.drew (hV'.below (Below.refl _ wr).drew) HW.out.1 htw hML
     have HCH := hid (fun (W' : World) (k : RRch wr.drew V' b g c R (timN R M t) W') => (RRch.then (htn.kept (Below.refl _ wr).drew) hVs k : RRch w2 V b g c R (timN R M t) W'))
     clear hE1 hE2 hdr ht hcs hok hadl hV' hVs htn hch hE hML
     go_upto_region 9 with fail
     obtain ⟨wd, hwd⟩ := nm (wr.drew)
     rw [<- hwd] at hAd hTd HCH
     refine qak (RqeAt w b g c (some ad) p) [0, 1, 2, 3, 4] (by kernel_rfl) ?_
     rw [<- hwd]
     clear hwd
     refine qar (f := 2) (by kernel_rfl) (fun _ x _ _ _ h => by cases x <;> exact h) hAd [0, 1, 2, 3, 4] _ _ (by kernel_rfl) (by kernel_rfl) (by kernel_rfl) ?_
     have ne : Nonempty (qad (RqeAt w b g c (some ad) p)) := ⟨⟨_, hAd⟩⟩
     conv => arg 5; simp [pick]
     refine qam rfl _ _ rfl w.heap.size rfl _ _ _ _ (fun y => y.h.bl) Tryz.underlying44 rfl rlawInfo ?_
     conv => arg 6; simp only [Act.put, sA, sB, sC]
     iterate 3 go_big_quiet_step (fail)
     refine qaI rfl _ _ rfl (ad.add (q * 10)) rfl (tmL t) _ HA1.out Tryz.underlying31 rfl tmInfo ?_
     conv => arg 6; simp only [Act.put, sA, sB, sC]
     refine wpQuiet_nil ?_
     clear ne hAd
     refine qag 5 (by kernel_rfl) rfl ?_
     go_wp2_with (go_at_call 14; refine hTd.mono ?_; rintro e w5 ⟨rfl, h5⟩)
     have hch5 := HCH.out _ h5
     refine stepQ.mk ⟨fun _ => HE0.out.turn hch5.tn HFAR.out HW.out.2.2.2, ?_⟩
     refine qaq [6] _ _ _ (by kernel_rfl) ?_
     conv => arg 4; simp [pick]
     clear hTd HCH h5
     by_cases h0 : timE R t = 0
     ·have HE2 := hid (show eachE R p = eachE R (p.drop (q + 1)) /\ eachN R N p = eachN R (timN R M t) (p.drop (q + 1)) /\ (timN R M t).length <= N.length + (q + 1) by
       have h1 := HE.out
       rw [if_neg (fun h => h h0), if_neg (fun h => h h0)] at h1
       exact ⟨h1.1, h1.2.1, by have := qgP R M t; omega⟩)
      rw [h0]
      clear h0 HE
      go_wp2_with fail
      go_roundw
      case rel => exact ⟨q + 1, timN R M t, by go_num, by omega, HE2, hch5⟩
      case measure => simp [RowKit.intOf]; omega
     ·have HE2 := hid (show pe = timE R t /\ pn = timN R M t by
       have h1 := HE.out
       rw [if_pos h0, if_pos h0] at h1
       exact ⟨by rw [HV2.out.1, if_pos (by rw [h1.1]; exact h0), h1.1], by rw [HV2.out.2, h1.2.1]⟩)
      obtain ⟨te, hte⟩ := nm (timE R t)
      rw [<- hte] at h0 HE2 ⊢
      have q1 : (te != 0) = true := by simpa using h0
      clear h0 hte HE
      go_wp2_with fail
      go_ret
      exact ⟨by rw [HE2.out.1]; rfl, by rw [HE2.out.2]; exact RRch.then (L6.Turn.of_keep HBW.out) (fun _ => .inl) hch5⟩
    ·obtain rfl : q = n := by omega
     have hz : eachE R p = 0 /\ pn = M := by
      have h1 := hok.out
      rw [List.drop_eq_nil_of_le (by have := HNL.out; omega)] at h1
      exact ⟨h1.1, by rw [HV2.out.2, h1.2.1]; rfl⟩
     have c1 : wr.cell? ⟨w.heap.size, 1, none⟩ = some (.pointer (some ⟨g, 0, none⟩)) := hE.bl.cell 1
     have c2 : wr.cell? ⟨g, 0, none⟩ = some (.int .i64 R.f) := by obtain ⟨V', hV', hVs⟩ := hch.ex; exact qiE hV'
     have hpe : pe = if (q : Int) < more 2 R.f then 61 else 0 := by rw [HV2.out.1, if_neg (fun h => h hz.1), HNL.out]
     have hpn := hz.2
     obtain ⟨mq, hmq⟩ := nm (more 2 R.f)
     rw [<- hmq] at hpe HQ
     clear hz hok hmq
     by_cases hc : (q : Int) < mq
     ·have E := hid (show pe = 61 by rw [hpe, if_pos hc])
      have EN := hid hpn
      clear hpe hpn
      go_wp2_with (first
       | (go_at_call 62; refine (HQ.out _).mono ?_; rintro e w9 ⟨rfl, rfl⟩))
      go_ret
      exact ⟨by rw [E.out]; rfl, by rw [EN.out]; exact RRch.then (L6.Turn.of_keep HBW.out) (fun _ => .inl) hch⟩
     ·have E := hid (show pe = 0 by rw [hpe, if_neg hc])
      have EN := hid hpn
      clear hpe hpn
      go_wp2_with (first
       | (go_at_call 62; refine (HQ.out _).mono ?_; rintro e w9 ⟨rfl, rfl⟩))
      go_ret
      exact ⟨by rw [E.out]; rfl, by rw [EN.out]; exact RRch.then (L6.Turn.of_keep HBW.out) (fun _ => .inl) hch⟩
end Go.Proofs.YtomaaidhmccngaaGreatDoor
namespace Go.Proofs.YtomaaidhmccngaaGreatDoor
open Go.RowKit Go.Maps Go.Lib
open L3 (Blk Reads)
open L6 (Turn In)
open L11 (Crt zeroC crtL crtC crtInfo qal cmpV upV qan wpList_store_row qac below_setRow qah)
theorem qhM (p : Bool) (w : World) : Calls Tryz.prog 146 #[.bool p] w fun e w' => e = .returned (.int .i64 (if p = true then -1 else 1)) /\ w = w' := by
 cases p
 ·go_enter Tryz.func146, Tryz.ntmps146
  go_wp2
  go_ret
  exact ⟨rfl, rfl⟩
 ·go_enter Tryz.func146, Tryz.ntmps146
  go_wp2
  go_ret
  exact ⟨rfl, rfl⟩
theorem qiZ {a b : Crt} (h : a.view ≠ b.view) : cmpV a b = if a.view < b.view then -1 else 1 := by
 unfold L11.cmpV compareInt
 by_cases h1 : a.view < b.view <;> simp [h, h1] <;> omega
theorem cmp_up {a b : Crt} (h : a.view = b.view) (h2 : upV a ≠ upV b) : cmpV a b = if upV a < upV b then -1 else 1 := by
 unfold L11.cmpV compareInt
 by_cases h1 : upV a < upV b <;> simp [h, h2, h1] <;> omega
theorem qc2 {a b : Crt} (h : a.view = b.view) (h2 : upV a = upV b) : cmpV a b = if a.round < b.round then -1 else if a.round = b.round then 0 else 1 := by
 unfold L11.cmpV compareInt
 by_cases h1 : a.round < b.round
 ·simp [h, h2, h1]
 ·by_cases h3 : a.round = b.round <;> simp [h, h2, h1, h3]
  omega
theorem rcmp_any (a b : Crt) (w : World) : Calls Tryz.prog 98 #[.agg (crtC a), .agg (crtC b)] w (gives (.int .i64 (cmpV a b)) w) := by
 have Z := hid (qcv w 29 29 (crtC a) (crtC b))
 obtain ⟨v, hv⟩ := nm (cmpV a b)
 rw [<- hv]
 have HV := hid hv
 have ht : ∀ W, Calls Tryz.prog 146 #[.bool true] W fun e w' => e = .returned (.int .i64 (-1)) /\ W = w' := fun W => qhM true W
 have hf : ∀ W, Calls Tryz.prog 146 #[.bool false] W fun e w' => e = .returned (.int .i64 1) /\ W = w' := fun W => qhM false W
 clear hv
 go_enter Tryz.func98, Tryz.ntmps98
 go_upto_region 1 with fail
 refine qab (fun w0 hw0 => ?_)
 have hA : Blk w0 w.heap.size 29 (crtC a) /\ Blk w0 (w.heap.size + 1) 29 (crtC b) /\ Below w.heap.size w w0 := by rw [hw0]; exact Z.out
 clear hw0 Z
 have a0 : w0.cell? ⟨w.heap.size, 0, none⟩ = some (.int .i64 a.kind) := hA.1.cell 0
 have a2 : w0.cell? ⟨w.heap.size, 2, none⟩ = some (.int .i64 a.view) := hA.1.cell 2
 have a3 : w0.cell? ⟨w.heap.size, 3, none⟩ = some (.int .i64 a.round) := hA.1.cell 3
 have b0 : w0.cell? ⟨w.heap.size + 1, 0, none⟩ = some (.int .i64 b.kind) := hA.2.1.cell 0
 have b2 : w0.cell? ⟨w.heap.size + 1, 2, none⟩ = some (.int .i64 b.view) := hA.2.1.cell 2
 have b3 : w0.cell? ⟨w.heap.size + 1, 3, none⟩ = some (.int .i64 b.round) := hA.2.1.cell 3
 have hb := hA.2.2
 clear hA
 by_cases h1 : a.view = b.view
 case neg =>
  have f1 : (a.view != b.view) = true := by simpa using h1
  by_cases h2 : a.view < b.view
  ·have E := hid (show v = -1 by rw [HV.out, qiZ h1, if_pos h2])
   clear h1
   go_wp2_with (first
    | (go_at_call 146; (first | ((with_reducible refine (ht _).mono ?_); rintro e w1 ⟨rfl, rfl⟩) | ((with_reducible refine (hf _).mono ?_); rintro e w1 ⟨rfl, rfl⟩))))
   go_ret
   exact ⟨by rw [E.out]; rfl, hb⟩
  ·have E := hid (show v = 1 by rw [HV.out, qiZ h1, if_neg h2])
   clear h1
   go_wp2_with (first
    | (go_at_call 146; (first | ((with_reducible refine (ht _).mono ?_); rintro e w1 ⟨rfl, rfl⟩) | ((with_reducible refine (hf _).mono ?_); rintro e w1 ⟨rfl, rfl⟩))))
   go_ret
   exact ⟨by rw [E.out]; rfl, hb⟩
 have HE1 := hid h1
 rw [h1] at a2
 clear h1
 by_cases k1 : a.kind = 2
 ·have u1 : upV a = 1 := by unfold L11.upV; rw [if_pos k1]
  rw [k1] at a0
  by_cases k2 : b.kind = 2
  ·have u2 : upV b = 1 := by unfold L11.upV; rw [if_pos k2]
   rw [k2] at b0
   clear k1 k2
   by_cases h3 : a.round = b.round
   ·have E := hid (show v = 0 by rw [HV.out, qc2 HE1.out (by rw [u1, u2]), if_neg (by omega), if_pos h3])
    rw [h3] at a3
    clear h3
    go_wp2
    go_ret
    exact ⟨by rw [E.out]; rfl, hb⟩
   ·have f3 : (a.round != b.round) = true := by simpa using h3
    by_cases h4 : a.round < b.round
    ·have E := hid (show v = -1 by rw [HV.out, qc2 HE1.out (by rw [u1, u2]), if_pos h4])
     clear h3
     go_wp2_with (first
      | (go_at_call 146; (first | ((with_reducible refine (ht _).mono ?_); rintro e w1 ⟨rfl, rfl⟩) | ((with_reducible refine (hf _).mono ?_); rintro e w1 ⟨rfl, rfl⟩))))
     go_ret
     exact ⟨by rw [E.out]; rfl, hb⟩
    ·have E := hid (show v = 1 by rw [HV.out, qc2 HE1.out (by rw [u1, u2]), if_neg h4, if_neg h3])
     clear h3
     go_wp2_with (first
      | (go_at_call 146; (first | ((with_reducible refine (ht _).mono ?_); rintro e w1 ⟨rfl, rfl⟩) | ((with_reducible refine (hf _).mono ?_); rintro e w1 ⟨rfl, rfl⟩))))
     go_ret
     exact ⟨by rw [E.out]; rfl, hb⟩
  ·have u2 : upV b = 0 := by unfold L11.upV; rw [if_neg k2]
   have f2 : (b.kind == 2) = false := by simpa using k2
   have E := hid (show v = 1 by rw [HV.out, cmp_up HE1.out (by rw [u1, u2]; decide), u1, u2]; decide)
   clear k1 k2
   go_wp2_with (first
    | (go_at_call 146; (first | ((with_reducible refine (ht _).mono ?_); rintro e w1 ⟨rfl, rfl⟩) | ((with_reducible refine (hf _).mono ?_); rintro e w1 ⟨rfl, rfl⟩))))
   go_ret
   exact ⟨by rw [E.out]; rfl, hb⟩
 ·have u1 : upV a = 0 := by unfold L11.upV; rw [if_neg k1]
  have f1 : (a.kind == 2) = false := by simpa using k1
  by_cases k2 : b.kind = 2
  ·have u2 : upV b = 1 := by unfold L11.upV; rw [if_pos k2]
   rw [k2] at b0
   have E := hid (show v = -1 by rw [HV.out, cmp_up HE1.out (by rw [u1, u2]; decide), u1, u2]; decide)
   clear k1 k2
   go_wp2_with (first
    | (go_at_call 146; (first | ((with_reducible refine (ht _).mono ?_); rintro e w1 ⟨rfl, rfl⟩) | ((with_reducible refine (hf _).mono ?_); rintro e w1 ⟨rfl, rfl⟩))))
   go_ret
   exact ⟨by rw [E.out]; rfl, hb⟩
  ·have u2 : upV b = 0 := by unfold L11.upV; rw [if_neg k2]
   have f2 : (b.kind == 2) = false := by simpa using k2
   clear k1 k2
   by_cases h3 : a.round = b.round
   ·have E := hid (show v = 0 by rw [HV.out, qc2 HE1.out (by rw [u1, u2]), if_neg (by omega), if_pos h3])
    rw [h3] at a3
    clear h3
    go_wp2
    go_ret
    exact ⟨by rw [E.out]; rfl, hb⟩
   ·have f3 : (a.round != b.round) = true := by simpa using h3
    by_cases h4 : a.round < b.round
    ·have E := hid (show v = -1 by rw [HV.out, qc2 HE1.out (by rw [u1, u2]), if_pos h4])
     clear h3
     go_wp2_with (first
      | (go_at_call 146; (first | ((with_reducible refine (ht _).mono ?_); rintro e w1 ⟨rfl, rfl⟩) | ((with_reducible refine (hf _).mono ?_); rintro e w1 ⟨rfl, rfl⟩))))
     go_ret
     exact ⟨by rw [E.out]; rfl, hb⟩
    ·have E := hid (show v = 1 by rw [HV.out, qc2 HE1.out (by rw [u1, u2]), if_neg h4, if_neg h3])
     clear h3
     go_wp2_with (first
      | (go_at_call 146; (first | ((with_reducible refine (ht _).mono ?_); rintro e w1 ⟨rfl, rfl⟩) | ((with_reducible refine (hf _).mono ?_); rintro e w1 ⟨rfl, rfl⟩))))
     go_ret
     exact ⟨by rw [E.out]; rfl, hb⟩
theorem rmax_any (a b : Crt) (w : World) : Calls Tryz.prog 79 #[.agg (crtC a), .agg (crtC b)] w (gives (.agg (crtC (maxV a b))) w) := by
 have Z := hid (qee w 29 29 29 (crtC a) (crtC b) (crtC zeroC))
 have hcm := fun W => rcmp_any a b W
 have hM : maxV a b = if cmpV a b < 0 then b else a := rfl
 obtain ⟨v, hv⟩ := nm (cmpV a b)
 rw [<- hv] at hcm hM
 rw [hM]
 clear hM hv
 by_cases h : v < 0
 ·rw [if_pos h]
  go_enter Tryz.func79, Tryz.ntmps79
  go_upto_region 1 with fail
  refine qab (fun w0 hw0 => ?_)
  have hA : Blk w0 w.heap.size 29 (crtC a) /\ Blk w0 (w.heap.size + 1) 29 (crtC b) /\ Blk w0 (w.heap.size + 2) 29 (crtC zeroC) /\ Below w.heap.size w w0 := by rw [hw0]; exact Z.out
  clear hw0 Z
  go_wp2_with (first
   | (refine qaa rfl _ _ rfl w.heap.size rfl _ _ _ _ hA.1 Tryz.underlying29 rfl crtInfo ?_)
   | (refine qaa rfl _ _ rfl (w.heap.size + 1) rfl _ _ _ _ hA.2.1 Tryz.underlying29 rfl crtInfo ?_)
   | (go_at_call 98; refine (hcm _).mono ?_; unfold gives; rintro e w1 ⟨rfl, hb1⟩
      have k1 := hA.2.1.below hb1 hA.2.1.lt
      have k2 := hA.2.2.1.below hb1 hA.2.2.1.lt)
   | (refine qaa rfl _ _ rfl (w.heap.size + 1) rfl _ _ _ _ k1 Tryz.underlying29 rfl crtInfo ?_)
   | (refine wpList_store_row rfl _ _ _ rfl (w.heap.size + 2) (crtC b) rfl rfl _ _ k2 crtInfo rfl (qal _) ?_))
  (try simp only [Exit.inBlock, Exit.then])
  refine bodyPost_ret (v := .agg (crtC b)) (qan rfl _ _ (w.heap.size + 2) rfl _ _ _ _ (qac k2) Tryz.underlying29 rfl crtInfo) rfl ?_
  exact ⟨rfl, below_setRow (nxt hA.2.2.2 hb1) (by omega)⟩
 ·rw [if_neg h]
  go_enter Tryz.func79, Tryz.ntmps79
  go_upto_region 1 with fail
  refine qab (fun w0 hw0 => ?_)
  have hA : Blk w0 w.heap.size 29 (crtC a) /\ Blk w0 (w.heap.size + 1) 29 (crtC b) /\ Blk w0 (w.heap.size + 2) 29 (crtC zeroC) /\ Below w.heap.size w w0 := by rw [hw0]; exact Z.out
  clear hw0 Z
  go_wp2_with (first
   | (refine qaa rfl _ _ rfl w.heap.size rfl _ _ _ _ hA.1 Tryz.underlying29 rfl crtInfo ?_)
   | (refine qaa rfl _ _ rfl (w.heap.size + 1) rfl _ _ _ _ hA.2.1 Tryz.underlying29 rfl crtInfo ?_)
   | (go_at_call 98; refine (hcm _).mono ?_; unfold gives; rintro e w1 ⟨rfl, hb1⟩
      have k1 := hA.1.below hb1 hA.1.lt
      have k2 := hA.2.2.1.below hb1 hA.2.2.1.lt)
   | (refine qaa rfl _ _ rfl w.heap.size rfl _ _ _ _ k1 Tryz.underlying29 rfl crtInfo ?_)
   | (refine wpList_store_row rfl _ _ _ rfl (w.heap.size + 2) (crtC a) rfl rfl _ _ k2 crtInfo rfl (qal _) ?_))
  (try simp only [Exit.inBlock, Exit.then])
  refine bodyPost_ret (v := .agg (crtC a)) (qan rfl _ _ (w.heap.size + 2) rfl _ _ _ _ (qac k2) Tryz.underlying29 rfl crtInfo) rfl ?_
  exact ⟨rfl, below_setRow (nxt hA.2.2.2 hb1) (by omega)⟩
theorem qmu (A : Option Addr) (cp : Nat) (p : List Tmo) (w : World) (hp : Rd tmL 10 w A p) (hn : p.length <= 1000000) :
 Calls Tryz.prog 18 #[.slice A p.length cp] w (gives (.agg (crtC (highV p))) w) := by
 have hb0 := (Below.refl _ w).alloc (Nat.le_refl _) (.cells (crtC zeroC) 29)
 have hk0 : Blk (w.alloc (.cells (crtC zeroC) 29)) w.heap.size 29 (crtC zeroC) := Blk.new _ _ _
 rcases p with _ | ⟨t, ts⟩
 ·clear hp hn
  go_enter Tryz.func18, Tryz.ntmps18
  go_wp2_with (first
   | (refine wpList_build rfl _ _ rfl #[] rfl (L11.qax _) ?_)
   | (refine wpList_store_row rfl _ _ _ rfl w.heap.size (crtC zeroC) rfl rfl _ _ hk0 crtInfo rfl (qal _) ?_))
  (try simp only [Exit.inBlock, Exit.then])
  refine bodyPost_ret (v := .agg (crtC zeroC)) (qan rfl _ _ w.heap.size rfl _ _ _ _ (qac hk0) Tryz.underlying29 rfl crtInfo) rfl ?_
  exact ⟨rfl, below_setRow hb0 (Nat.le_refl _)⟩
 ·obtain ⟨ad, e', hadl, hcs⟩ := hp 0 (by simp)
  subst e'
  have hcs0 : ∀ j u, (crtL t.high)[j]? = some u -> w.cell? ((ad.add 2).add j) = some u := qet (t := t) (by simpa [Addr.add] using hcs)
  have hlen : (t :: ts).length = ts.length + 1 := rfl
  obtain ⟨n, hn'⟩ : ∃ n, n = ts.length := ⟨_, rfl⟩
  rw [hlen, <- hn'] at hn
  rw [hlen, <- hn']
  have HN := hid hn'
  have Z0 := hid (And.intro hk0 (And.intro hb0 (And.intro (hp.below hb0) (fun j u (hj : (crtL t.high)[j]? = some u) => (hb0.cell (by rw [L3.qaz, L3.qaz]; exact hadl)).trans (hcs0 j u hj)))))
  clear hp hn' hcs hcs0 hlen hk0 hb0
  go_enter Tryz.func18, Tryz.ntmps18
  go_upto_region 1 with fail
  refine qab (fun w0 hw0 => ?_)
  have hA : Blk w0 w.heap.size 29 (crtC zeroC) /\ Below w.heap.size w w0 /\ Rd tmL 10 w0 (some ad) (t :: ts) /\ (∀ j u, (crtL t.high)[j]? = some u -> w0.cell? ((ad.add 2).add j) = some u) := by rw [hw0]; exact Z0.out
  clear hw0 Z0
  obtain ⟨k0, hb0, hRd, hcs1⟩ := hA
  go_upto_region 4 with (first
   | (refine qai rfl _ _ rfl (ad.add 2) rfl (crtL t.high) _ hcs1 Tryz.underlying29 rfl crtInfo ?_)
   | (refine qaf rfl _ _ _ rfl _ (crtC t.high) rfl rfl _ _ crtInfo rfl (qal _) ?_))
  have hb1 := (Below.refl _ w0).alloc (Nat.le_refl _) (.cells (crtC t.high) 29)
  have hx1 : Blk (w0.alloc (.cells (crtC t.high) 29)) w0.heap.size 29 (crtC t.high) := Blk.new _ _ _
  have hk1 := k0.below hb1 k0.lt
  have hRd1 := hRd.below hb1
  have hw1 := nxt hb0 hb1
  have hne : w.heap.size < w0.heap.size := k0.lt
  have hadG : ad.block < w0.heap.size := Nat.lt_of_lt_of_le hadl hb0.size
  obtain ⟨G, hG⟩ := nm (w0.heap.size)
  rw [<- hG] at hx1 hne hadG
  rw [<- hG]
  refine qab (fun w1 hw1' => ?_)
  rw [<- hw1'] at hx1 hk1 hRd1 hw1
  clear hw1' hG hb1 k0 hb0 hRd hcs1
  have hA : HiAt w G ad (t :: ts) (highV (t :: ts.take 0)) w1 := ⟨hk1, hx1, hRd1, hw1⟩
  clear hk1 hx1 hRd1 hw1
  go_wp2
  go_loopw [4] (fun i wr => ∃ m : Nat, i = .int .i64 (m : Int) /\ 1 <= m /\ m <= n + 1 /\ HiAt w G ad (t :: ts) (highV (t :: ts.take (m - 1))) wr) (fun i _ => n + 1 - (RowKit.intOf i).toNat)
  case atStart => exact ⟨1, rfl, Nat.le_refl _, by omega, hA⟩
  case round =>
   obtain ⟨m, rfl, hm1, hm, hP⟩ := hrel
   clear hA
   by_cases hlt : m < n + 1
   ·obtain ⟨k, hk⟩ : ∃ k, m = k + 1 := ⟨m - 1, by omega⟩
    have hkL : k < ts.length := by have := HN.out; omega
    have hkL2 : k + 1 < (t :: ts).length := by simp; omega
    have hnx := qhs t ts k hkL
    have HA1 : Hid (∀ (c : Crt) (z : qad (HiAt w G ad (t :: ts) c)), ∀ j u, (tmL ts[k])[j]? = some u -> z.w.cell? ((ad.add (m * 10)).add j) = some u) := hid (fun c z => by rw [hk]; have := z.h.rd.at_ hkL2; rw [List.getElem_cons_succ] at this; exact this)
    obtain ⟨x, hx⟩ := nm (ts[k])
    rw [<- hx] at hnx HA1
    have ek : m - 1 = k := by omega
    rw [ek] at hP
    obtain ⟨cc, hcc⟩ := nm (highV (t :: ts.take k))
    rw [<- hcc] at hP hnx
    have HX := hid (show highV (t :: ts.take (m + 1 - 1)) = maxV cc x.high by rw [show m + 1 - 1 = k + 1 by omega]; exact hnx)
    have HC2 : Hid (∀ z : qad (HiAt w G ad (t :: ts) cc), ∀ j u, (tmL x)[j]? = some u -> z.w.cell? ((ad.add (m * 10)).add j) = some u) := hid (fun z => HA1.out cc z)
    have HC3 : Hid (∀ z : qad (HiAt w G ad (t :: ts) cc), ∀ j u, (crtL x.high)[j]? = some u -> z.w.cell? (((ad.add (m * 10)).add 2).add j) = some u) := hid (fun z => qet (t := x) (HC2.out z))
    have hPd := hP.below (Below.refl _ wr).drew
    have hM := fun W => rmax_any cc x.high W
    have HR := hid (fun (W0 W : World) (h0 : HiAt w G ad (t :: ts) cc W0) (hb : Below W0.heap.size W0 W) (c' : Crt) => (h0.below hb).row hne hadG c')
    clear hx hnx hcc hkL2 hkL HA1 HC2 hP ek hk
    go_upto_region 7 with fail
    obtain ⟨wd, hwd⟩ := nm (wr.drew)
    rw [<- hwd] at hPd
    refine qak (HiAt w G ad (t :: ts) cc) [0, 1, 2, 3, 4, 5] (by kernel_rfl) ?_
    rw [<- hwd]
    clear hwd
    refine qar (f := 2) (by kernel_rfl) (fun _ x _ _ _ h => by cases x <;> exact h) hPd [0, 1, 2, 3, 4, 5] _ _ (by kernel_rfl) (by kernel_rfl) (by kernel_rfl) ?_
    have ne : Nonempty (qad (HiAt w G ad (t :: ts) cc)) := ⟨⟨_, hPd⟩⟩
    conv => arg 5; simp [pick]
    refine qam rfl _ _ rfl G rfl _ _ _ _ (fun y => y.h.bg) Tryz.underlying29 rfl crtInfo ?_
    conv => arg 6; simp only [Act.put, sA, sB, sC]
    iterate 4 go_big_quiet_step (fail)
    refine qaI rfl _ _ rfl ((ad.add (m * 10)).add 2) rfl (crtL x.high) _ HC3.out Tryz.underlying29 rfl crtInfo ?_
    conv => arg 6; simp only [Act.put, sA, sB, sC]
    refine wpQuiet_nil ?_
    clear ne
    refine qag 6 (by kernel_rfl) rfl ?_
    go_wp2_with (go_at_call 79; refine (hM _).mono ?_; unfold gives; rintro e w3 ⟨rfl, hb3⟩)
    have hA3 := hPd.below hb3
    have hg3 := hA3.bg
    have hP4 := hA3.row hne hadG (maxV cc x.high)
    clear hPd hM
    refine stepQ.mk ⟨fun _ => hA3, ?_⟩
    clear hA3
    refine qaq [7] _ _ _ (by kernel_rfl) ?_
    conv => arg 4; simp [pick]
    go_wp2_with (refine wpList_store_row rfl _ _ _ rfl G (crtC (maxV cc x.high)) rfl rfl _ _ hg3 crtInfo rfl (qal _) ?_)
    go_roundw
    case rel => exact ⟨m + 1, by go_num, by omega, by omega, by rw [HX.out]; exact hP4⟩
    case measure => simp [RowKit.intOf]; omega
   ·obtain rfl : m = n + 1 := by omega
    have hfull : ts.take (n + 1 - 1) = ts := List.take_of_length_le (by have := HN.out; omega)
    rw [hfull] at hP
    obtain ⟨cc, hcc⟩ := nm (highV (t :: ts))
    rw [<- hcc] at hP
    have HCC := hid hcc
    clear hcc
    have hz := hP.bz
    have hg := hP.bg
    go_wp2_with (first
     | (refine qaa rfl _ _ rfl G rfl _ _ _ _ hg Tryz.underlying29 rfl crtInfo ?_)
     | (refine wpList_store_row rfl _ _ _ rfl w.heap.size (crtC cc) rfl rfl _ _ hz crtInfo rfl (qal _) ?_))
    (try simp only [Exit.inBlock, Exit.then])
    refine bodyPost_ret (v := .agg (crtC cc)) (qan rfl _ _ w.heap.size rfl _ _ _ _ (qac hz) Tryz.underlying29 rfl crtInfo) rfl ?_
    exact ⟨by rw [HCC.out], below_setRow hP.bw (Nat.le_refl _)⟩
