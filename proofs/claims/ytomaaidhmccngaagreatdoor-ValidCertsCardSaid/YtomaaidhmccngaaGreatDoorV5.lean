import Derived.Test.YtomaaidhmccngaaGreatDoorV3
set_option linter.unusedSimpArgs false
set_option linter.unusedVariables false
set_option maxRecDepth 100000
set_option maxHeartbeats 16000000
namespace Go.Proofs.YtomaaidhmccngaaGreatDoor
open Go.ChangeShapes Go.WideShapes Go.ChangeAt Go.RowKit
theorem open_crt {H : Type} {enc : TypeId × Value -> H} {W : World} {base : Nat} {v : Value} {d : DataW H} {ps : List MemPlace} (hval : Value.okWide Tryz.prog W .any base 29 v)
 (h : DataW.Trod enc Tryz.prog W 0 (fun _ => true) true 29 v d ps) : ∃ c : L11.Crt, v = .agg (L11.crtC c) /\ c.wf := by
 obtain ⟨cs, rfl, _⟩ := okWide_struct Tryz.underlying29 hval
 obtain ⟨fuel, hf⟩ := h
 obtain ⟨c, hs, hw⟩ := qdz hf
 refine ⟨c, ?_, hw⟩
 have : cs = L11.crtC c := Array.toList_inj.1 hs
 rw [this]
end Go.Proofs.YtomaaidhmccngaaGreatDoor
namespace Go.Proofs.YtomaaidhmccngaaGreatDoor
open Go.ChangeShapes Go.WideShapes Go.ChangeAt Go.RowKit
open L3 (Reads qaz)
open L7 (Shr shrC shrL stmC stmL Stm)
theorem qgy {H : Type} {enc : TypeId × Value -> H} {W : World} {α : Type} [Inhabited α] {t e : TypeId} {f : α -> List Value} {k : Nat} (Q : α -> Prop) (ht : Tryz.prog.underlying t = some (.slice e)) (hk : Tryz.prog.cellsOf e = k) (hfk : ∀ x, (f x).length = k) (h0 : ∀ x, ∃ u, (f x)[0]? = some u)
 (each : ∀ (n : Nat) (cs' : List Value) (y : DataW H × List MemPlace), DataW.trod enc Tryz.prog W 0 (fun _ => true) true n e cs' = some y -> ∃ x, cs' = f x /\ Q x) {n : Nat} {v : Value} {y : DataW H × List MemPlace} (hf : DataW.trod enc Tryz.prog W 0 (fun _ => true) true n t [v] = some y) :
 ∃ (A : Option Addr) (cap : Nat) (L : List α), v = .slice A L.length cap /\ Rd f k W A L /\ (∀ x ∈ L, Q x) /\ L.length <= maxLen /\ L.length <= cap := by
 rcases Deep.open_slice ht hf with ⟨hcs, hx⟩ | ⟨a, len, cap, m, n, D, Pl, hcs, _, hl, hm, hmm, hx, hi⟩
 ·injection hcs with hcs _
  subst hcs
  exact ⟨none, 0, [], rfl, Rd.nil, (fun x hx => absurd hx List.not_mem_nil), Nat.zero_le _, Nat.zero_le _⟩
 ·injection hcs with hcs _
  subst hcs
  simp only [if_true] at hmm
  subst hmm
  have each2 : ∀ i, i < len -> ∃ x : α, (∀ j u, (f x)[j]? = some u -> W.cell? ((a.add (i * k)).add j) = some u) /\ Q x := by
   intro i hil
   obtain ⟨cs', hc, ht'⟩ := hi i (by omega)
   obtain ⟨_, hcl, hat⟩ := World.cells?_some hc
   obtain ⟨x, rfl, hfit⟩ := each _ _ _ ht'
   rw [hk] at hat
   refine ⟨x, fun j u hj => ?_, hfit⟩
   have hjk : j < k := by
    rcases Nat.lt_or_ge j k with h | h
    ·exact h
    ·rw [List.getElem?_eq_none (by rw [hfk]; exact h)] at hj; cases hj
   rw [hat j hjk]
   exact hj
  obtain ⟨F, hF⟩ := Deep.choose_lt each2
  refine ⟨some a, m, (List.range len).map F, by simp, fun i hi => ?_, fun x hx => ?_, by simp; omega, by simp; omega⟩
  ·have hil : i < len := by simpa using hi
   obtain ⟨h1, h2⟩ := hF i hil
   obtain ⟨u, hu⟩ := h0 (F i)
   have hb := qli (h1 0 u hu)
   rw [qaz, qaz] at hb
   have e1 : ((List.range len).map F)[i] = F i := by simp
   rw [e1]
   exact ⟨a, rfl, hb, h1⟩
  ·obtain ⟨i, hi, rfl⟩ := List.mem_map.1 hx
   exact (hF i (List.mem_range.1 hi)).2
section
variable {H : Type} {enc : TypeId × Value -> H} {w : World} {base : Nat} {spare : Nat -> Bool} {held : Bool}
theorem list10 {l : List Value} {a0 a1 a2 a3 a4 a5 a6 a7 a8 a9 : Value} (hl : l.length = 10) (h0 : l[0]? = some a0) (h1 : l[1]? = some a1) (h2 : l[2]? = some a2) (h3 : l[3]? = some a3) (h4 : l[4]? = some a4)
 (h5 : l[5]? = some a5) (h6 : l[6]? = some a6) (h7 : l[7]? = some a7) (h8 : l[8]? = some a8) (h9 : l[9]? = some a9) : l = [a0, a1, a2, a3, a4, a5, a6, a7, a8, a9] := by
 match l, hl with
 | [b0, b1, b2, b3, b4, b5, b6, b7, b8, b9], _ =>
   simp at h0 h1 h2 h3 h4 h5 h6 h7 h8 h9
   subst h0 h1 h2 h3 h4 h5 h6 h7 h8 h9
   rfl
theorem qiJ {fuel : Nat} {l : List Value} {y : DataW H × List MemPlace} (h : DataW.trod enc Tryz.prog w base spare held fuel 73 l = some y) : ∃ s : Stm, l = stmL s /\ s.wf := by
 obtain ⟨ys, n, _, _, hlen, hyl, hf⟩ := DataW.trod_struct Tryz.underlying73 h
 have hl : l.length = 10 := hlen.trans L7.cM
 have hy : ys.length = 10 := hyl
 obtain ⟨a0, e0, w0⟩ := qa0 (hf 0 _ rfl) (qaw hy (by decide)) (Nat.lt_of_lt_of_eq (by decide) hl.symm)
 obtain ⟨a1, e1, w1⟩ := qa0 (hf 1 _ rfl) (qaw hy (by decide)) (Nat.lt_of_lt_of_eq (by decide) hl.symm)
 obtain ⟨a2, e2, w2⟩ := qa0 (hf 2 _ rfl) (qaw hy (by decide)) (Nat.lt_of_lt_of_eq (by decide) hl.symm)
 obtain ⟨a3, e3, w3⟩ := qa0 (hf 3 _ rfl) (qaw hy (by decide)) (Nat.lt_of_lt_of_eq (by decide) hl.symm)
 obtain ⟨a4, e4, w4⟩ := qa0 (hf 4 _ rfl) (qaw hy (by decide)) (Nat.lt_of_lt_of_eq (by decide) hl.symm)
 obtain ⟨a5, e5, w5⟩ := qa0 (hf 5 _ rfl) (qaw hy (by decide)) (Nat.lt_of_lt_of_eq (by decide) hl.symm)
 obtain ⟨a6, e6, w6⟩ := qa0 (hf 6 _ rfl) (qaw hy (by decide)) (Nat.lt_of_lt_of_eq (by decide) hl.symm)
 obtain ⟨a7, e7, w7⟩ := qa0 (hf 7 _ rfl) (qaw hy (by decide)) (Nat.lt_of_lt_of_eq (by decide) hl.symm)
 obtain ⟨a8, e8, w8⟩ := qa0 (hf 8 _ rfl) (qaw hy (by decide)) (Nat.lt_of_lt_of_eq (by decide) hl.symm)
 obtain ⟨a9, e9, w9⟩ := qa0 (hf 9 _ rfl) (qaw hy (by decide)) (Nat.lt_of_lt_of_eq (by decide) hl.symm)
 exact ⟨⟨a0, a1, a2, a3, a4, a5, a6, a7, a8, a9⟩, list10 hl e0 e1 e2 e3 e4 e5 e6 e7 e8 e9, ⟨w0, w1, w2, w3, w4, w5, w6, w7, w8, w9⟩⟩
theorem qfu {fuel : Nat} {l : List Value} {y : DataW H × List MemPlace} (h : DataW.trod enc Tryz.prog w base spare held fuel 75 l = some y) : ∃ x : Shr, l = shrL x /\ x.wf := by
 obtain ⟨ys, n, _, _, hlen, hyl, hf⟩ := DataW.trod_struct Tryz.underlying75 h
 have hl : l.length = 11 := hlen.trans L7.cS
 have hy : ys.length = 2 := hyl
 obtain ⟨k, e0, w0⟩ := qa0 (hf 0 _ rfl) (qaw hy (by decide)) (Nat.lt_of_lt_of_eq (by decide) hl.symm)
 obtain ⟨z, hz⟩ := Option.isSome_iff_exists.1 (qaw (j := 1) hy (by decide))
 obtain ⟨s, hs, ws⟩ := qiJ ((hf 1 _ rfl).trans hz)
 refine ⟨⟨k, s⟩, ?_, w0, ws⟩
 match l, hl with
 | [b0, b1, b2, b3, b4, b5, b6, b7, b8, b9, b10], _ =>
   simp at e0
   subst e0
   have h2 : List.take (Tryz.prog.cellsOf 73) [b1, b2, b3, b4, b5, b6, b7, b8, b9, b10] = stmL s := hs
   rw [L7.cM] at h2
   exact congrArg (List.cons _) h2
theorem qkJ {fuel : Nat} {l : List Value} {y : DataW H × List MemPlace} (h : DataW.trod enc Tryz.prog w base spare held fuel 9 l = some y) : ∃ s : List UInt8, l = stL s /\ s.length <= maxLen := by
 obtain ⟨s, hk, _, hw⟩ := DataW.trod_string Tryz.underlying9 h
 refine ⟨s.data.toList, by unfold stL; rw [qfw]; exact hk, ?_⟩
 have := qa4 s.data.toList
 rw [qfw] at this
 omega
end
theorem cS1 : Tryz.prog.cellsOf 9 = 1 := by kernel_rfl
theorem shr_0 (x : Shr) : ∃ u, (shrL x)[0]? = some u := ⟨_, rfl⟩
theorem st_0 (x : List UInt8) : ∃ u, (stL x)[0]? = some u := ⟨_, rfl⟩
theorem bk_0 (x : BkV) : ∃ u, (bkL x)[0]? = some u := ⟨_, rfl⟩
theorem cSB : Tryz.prog.cellsOf 23 = 1 := by kernel_rfl
theorem cSS : Tryz.prog.cellsOf 24 = 1 := by kernel_rfl
theorem cSH : Tryz.prog.cellsOf 25 = 1 := by kernel_rfl
theorem cIN : Tryz.prog.cellsOf 27 = 6 := by kernel_rfl
theorem qjJ {H : Type} {enc : TypeId × Value -> H} {W : World} {n : Nat} {cs' : List Value} {y : DataW H × List MemPlace} (h : DataW.trod enc Tryz.prog W 0 (fun _ => true) true n 57 cs' = some y) :
 ∃ x : BkV, cs' = bkL x /\ (x.b.raw /\ Rd tmL 10 W x.A x.b.proof /\ Rd txL 7 W x.D x.b.txs) := by
 obtain ⟨b, A, c, D, d, hl, r1, r2, hw⟩ := qii h
 exact ⟨⟨b, A, c, D, d⟩, hl, hw, r1, r2⟩
theorem qko {H : Type} {enc : TypeId × Value -> H} {W : World} {fuel : Nat} {l : List Value} {y : DataW H × List MemPlace} (h : DataW.trod enc Tryz.prog W 0 (fun _ => true) true fuel 27 l = some y) :
 ∃ (x : InV) (a : InA), l = (inC x a).toList /\ InAt x a W /\ x.raw := by
 obtain ⟨ys, n, _, _, hlen, hyl, hf⟩ := DataW.trod_struct Tryz.underlying27 h
 have hl : l.length = 6 := hlen.trans cIN
 have hy : ys.length = 6 := hyl
 obtain ⟨f, e0, w0⟩ := qa0 (hf 0 _ rfl) (qaw hy (by decide)) (Nat.lt_of_lt_of_eq (by decide) hl.symm)
 obtain ⟨bad, e1, w1⟩ := qf4 (hf 1 _ rfl) (qaw hy (by decide)) (Nat.lt_of_lt_of_eq (by decide) hl.symm)
 obtain ⟨z2, hz2⟩ := Option.isSome_iff_exists.1 (qaw (j := 2) hy (by decide))
 obtain ⟨z3, hz3⟩ := Option.isSome_iff_exists.1 (qaw (j := 3) hy (by decide))
 obtain ⟨z4, hz4⟩ := Option.isSome_iff_exists.1 (qaw (j := 4) hy (by decide))
 obtain ⟨z5, hz5⟩ := Option.isSome_iff_exists.1 (qaw (j := 5) hy (by decide))
 have h2 := (hf 2 _ rfl).trans hz2
 have h3 := (hf 3 _ rfl).trans hz3
 have h4 := (hf 4 _ rfl).trans hz4
 have h5 := (hf 5 _ rfl).trans hz5
 match l, hl with
 | [b0, b1, b2, b3, b4, b5], _ =>
   simp at e0 e1
   subst e0 e1
   have h2' : DataW.trod enc Tryz.prog W 0 (fun _ => true) true n 23 (List.take (Tryz.prog.cellsOf 23) [b2, b3, b4, b5]) = some z2 := h2
   have h3' : DataW.trod enc Tryz.prog W 0 (fun _ => true) true n 24 (List.take (Tryz.prog.cellsOf 24) [b3, b4, b5]) = some z3 := h3
   have h4' : DataW.trod enc Tryz.prog W 0 (fun _ => true) true n 25 (List.take (Tryz.prog.cellsOf 25) [b4, b5]) = some z4 := h4
   have h5' : DataW.trod enc Tryz.prog W 0 (fun _ => true) true n 25 (List.take (Tryz.prog.cellsOf 25) [b5]) = some z5 := h5
   rw [cSB] at h2'
   rw [cSS] at h3'
   rw [cSH] at h4' h5'
   obtain ⟨A1, c1, L1, rfl, r1, q1, m1⟩ := qb5 (W := W) (f := bkL) (k := 14) (fun x : BkV => x.b.raw /\ Rd tmL 10 W x.A x.b.proof /\ Rd txL 7 W x.D x.b.txs) Tryz.underlying23 cB (fun _ => rfl) bk_0 (fun n cs' y h => qjJ h) h2'
   obtain ⟨A2, c2, L2, rfl, r2, q2, m2⟩ := qb5 (W := W) (f := stL) (k := 1) (fun s : List UInt8 => s.length <= maxLen) Tryz.underlying24 cS1 (fun _ => rfl) st_0 (fun n cs' y h => qkJ h) h3'
   obtain ⟨A3, c3, L3', rfl, r3, q3, m3⟩ := qb5 (W := W) (f := shrL) (k := 11) (fun s : Shr => s.wf) Tryz.underlying25 L7.cS (fun _ => rfl) shr_0 (fun n cs' y h => qfu h) h4'
   obtain ⟨A4, c4, L4', rfl, r4, q4, m4⟩ := qb5 (W := W) (f := shrL) (k := 11) (fun s : Shr => s.wf) Tryz.underlying25 L7.cS (fun _ => rfl) shr_0 (fun n cs' y h => qfu h) h5'
   exact ⟨⟨f, bad, L1, L2, L3', L4'⟩, ⟨A1, c1, A2, c2, A3, c3, A4, c4⟩, rfl, ⟨r1, fun y hy => (q1 y hy).2.1, fun y hy => (q1 y hy).2.2, r2, r3, r4⟩, ⟨w0, w1, fun y hy => (q1 y hy).1, q2, q3, q4, m1, m2, m3, m4⟩⟩
theorem open_in {H : Type} {enc : TypeId × Value -> H} {W : World} {base : Nat} {v : Value} {d : DataW H} {ps : List MemPlace} (hval : Value.okWide Tryz.prog W .any base 27 v)
 (h : DataW.Trod enc Tryz.prog W 0 (fun _ => true) true 27 v d ps) : ∃ (x : InV) (a : InA), v = .agg (inC x a) /\ InAt x a W /\ x.raw := by
 obtain ⟨cs, rfl, _⟩ := okWide_struct Tryz.underlying27 hval
 obtain ⟨fuel, hf⟩ := h
 obtain ⟨x, a, hs, h1, h2⟩ := qko hf
 refine ⟨x, a, ?_, h1, h2⟩
 have : cs = inC x a := Array.toList_inj.1 hs
 rw [this]
theorem qma {H : Type} {enc : TypeId × Value -> H} {W : World} {base : Nat} {v : Value} {d : DataW H} {ps : List MemPlace} (hval : Value.okWide Tryz.prog W .any base 32 v)
 (h : DataW.Trod enc Tryz.prog W 0 (fun _ => true) true 32 v d ps) : ∃ (A : Option Addr) (c : Nat) (p : List Tmo), v = .slice A p.length c /\ Rd tmL 10 W A p /\ (∀ t ∈ p, t.wf) /\ p.length <= maxLen /\ p.length <= c := by
 obtain ⟨a0, len, cap, rfl⟩ := okWide_slice Tryz.underlying32 hval
 obtain ⟨fuel, hf⟩ := h
 exact qgy (W := W) (f := tmL) (k := 10) (fun t : Tmo => t.wf) Tryz.underlying32 cT (fun _ => rfl) tm_0 (fun n cs' y h => qe3 h) hf
end Go.Proofs.YtomaaidhmccngaaGreatDoor
namespace Go.Proofs.YtomaaidhmccngaaGreatDoor
open Go.ChangeShapes Go.WideShapes Go.ChangeAt Go.RowKit
open L3 (Reads qaz)
