import Derived.Test.YtomaaidhmccngaaGreatDoorV1
set_option linter.unusedSimpArgs false
set_option linter.unusedVariables false
set_option maxRecDepth 100000
set_option maxHeartbeats 16000000
namespace Go.Proofs.YtomaaidhmccngaaGreatDoor
open Go.RowKit Go.Maps Go.Lib
open L3 (Blk Reads)
open L6 (Turn In)
open L11 (Crt zeroC crtL crtC endV mayV stmV stmC Stm qaj)
structure RiAt (w : World) (G : Nat) (t : Tmo) (ad : Addr) (p : List Tmo) (W : World) : Prop where
 bx : Blk W G 31 (tmC t)
 rd : Rd tmL 10 W (some ad) p
 bw : Below w.heap.size w W
theorem RiAt.drew {w : World} {G : Nat} {t : Tmo} {ad : Addr} {p : List Tmo} {W : World} (h : RiAt w G t ad p W) : RiAt w G t ad p W.drew := ⟨h.bx, h.rd.below (Below.refl _ _).drew, h.bw.drew⟩
theorem qkB (v : Int) (A : Option Addr) (c : Nat) (p : List Tmo) (w : World) (hp : Rd tmL 10 w A p) (hn : p.length <= maxLen) :
 Calls Tryz.prog 72 #[.int .i64 v, .slice A p.length c] w (gives (.int .i64 (errI (risV v p) 121)) w) := by
 obtain ⟨n, en⟩ := nm (p.length)
 rw [<- en] at hn
 unfold maxLen at hn
 rw [<- en]
 obtain ⟨r, hr⟩ := nm (errI (risV v p) 121)
 rw [<- hr]
 have HN := hid en
 have HR := hid hr
 have HP := hid hp
 clear hr hp en
 go_enter Tryz.func72, Tryz.ntmps72
 go_wp2
 go_loopw [9] (fun i wr => ∃ k : Nat, i = .int .i64 k /\ k <= n /\ Hid (∀ j, j < k -> okR v p j = true) /\ Below w.heap.size w wr) (fun i _ => n - (RowKit.intOf i).toNat)
 case atStart => exact ⟨0, rfl, Nat.zero_le _, hid (fun j hj => absurd hj (by omega)), Below.refl _ _⟩
 case round =>
  obtain ⟨k, rfl, hk, hok, hb⟩ := hrel
  by_cases hlt : k < n
  ·have hkL : k < p.length := by have := HN.out; omega
   have hRd := HP.out.below hb
   obtain ⟨ad, rfl, hadl, hcs⟩ := hRd k hkL
   have hat : p[k]! = p[k] := qei hkL
   obtain ⟨t, ht⟩ := nm (p[k])
   rw [<- ht] at hcs hat
   have hcs1 : ∀ j u, (tmL t)[j]? = some u -> wr.cell? ((ad.add (k * 10)).add j) = some u := hcs
   have hok1 : okR v p k = (decide (t.view = v) && (decide (k = 0) || decide ((p[k - 1]!).signer < t.signer))) := by unfold okR; rw [hat]
   have HO := hid hok1
   clear hcs ht hat hok1
   go_upto_region 4 with (first
    | (refine qai rfl _ _ rfl (ad.add (k * 10)) rfl (tmL t) _ hcs1 Tryz.underlying31 rfl tmInfo ?_)
    | (refine qaf rfl _ _ _ rfl wr (tmC t) rfl rfl _ _ tmInfo rfl (qbX _) ?_))
   have hb1 := qae wr (.cells (tmC t) 31)
   have hx1 := qc0 wr 31 t
   have hRd1 := hRd.below hb1
   have hw1 := nxt hb hb1
   obtain ⟨G, hG⟩ := nm (wr.heap.size)
   rw [<- hG] at hx1
   rw [<- hG]
   refine qab (fun w1 hw1' => ?_)
   rw [<- hw1'] at hx1 hRd1 hw1
   have hS : RiAt w G t ad p w1 := ⟨hx1, hRd1, hw1⟩
   clear hw1' hG hb1 hcs1 hRd hb hx1 hRd1 hw1
   have hbg : ∀ j, j < k -> ∀ z : qad (RiAt w G t ad p), z.w.cell? (ad.add (j * 10)) = some (.int .i64 (p[j]!).signer) := fun j hj z => by
    have hjL : j < p.length := by omega
    obtain ⟨ad', e', _, hc'⟩ := z.h.rd j hjL
    injection e' with e'
    subst e'
    have := hc' 0 _ rfl
    rw [qei hjL]
    simpa [Addr.add] using this
   have HBG := hid hbg
   have HK := hid hkL
   have k0 : ∀ z : qad (RiAt w G t ad p), z.w.cell? ⟨G, 0, none⟩ = some (.int .i64 t.signer) := fun z => z.h.bx.cell 0
   have k1 : ∀ z : qad (RiAt w G t ad p), z.w.cell? ⟨G, 1, none⟩ = some (.int .i64 t.view) := fun z => z.h.bx.cell 1
   have ne : Nonempty (qad (RiAt w G t ad p)) := ⟨⟨_, hS.drew⟩⟩
   clear hbg hkL
   by_cases hv : t.view = v
   case neg =>
    have E := hid (show r = 121 by rw [HR.out, qj2 HK.out (by rw [HO.out, decide_eq_false hv]; rfl)]; rfl)
    have q2 : (t.view != v) = true := by simpa using hv
    clear HO hv HBG
    refine qat (RiAt w G t ad p) (by kernel_rfl) (by kernel_rfl) hS.drew ?_
    simp only [Act.put]
    clear hS
    repeat go_big_quiet_step (fail)
    refine wpQuiet_nil ?_
    intro z
    obtain ⟨W, hW⟩ := z
    dsimp only
    clear ne k0 k1
    go_wp2
    go_ret
    exact ⟨by rw [E.out]; rfl, hW.bw⟩
   have q2 : (t.view != v) = false := by simpa using hv
   have HV := hid hv
   clear hv
   by_cases hk0 : 0 < k
   case neg =>
    have hrt : Hid (okR v p k = true) := hid (by rw [HO.out, decide_eq_true HV.out, decide_eq_true (show k = 0 by omega)]; rfl)
    clear HO HBG
    refine qat (RiAt w G t ad p) (by kernel_rfl) (by kernel_rfl) hS.drew ?_
    simp only [Act.put]
    clear hS
    repeat go_big_quiet_step (fail)
    refine wpQuiet_nil ?_
    intro z
    obtain ⟨W, hW⟩ := z
    dsimp only
    clear ne k0 k1
    go_wp2
    go_roundw
    case rel =>
     refine ⟨k + 1, by go_num, by omega, hid (fun j hj => ?_), hW.bw⟩
     obtain rfl : j = k := by omega
     exact hrt.out
    case measure => simp [RowKit.intOf]; omega
   obtain ⟨j, rfl⟩ : ∃ j, k = j + 1 := ⟨k - 1, by omega⟩
   have kp := HBG.out j (by omega)
   have hO := HO.out
   rw [decide_eq_true HV.out, decide_eq_false (show ¬ j + 1 = 0 by omega), show j + 1 - 1 = j by omega] at hO
   obtain ⟨pv, hpv2⟩ := nm ((p[j]!).signer)
   rw [<- hpv2] at kp hO
   clear HBG hpv2 HO HV
   by_cases h3 : pv < t.signer
   case neg =>
    have E := hid (show r = 121 by rw [HR.out, qj2 HK.out (by rw [hO, decide_eq_false h3]; rfl)]; rfl)
    have q3 : t.signer <= pv := by omega
    clear hO h3
    refine qat (RiAt w G t ad p) (by kernel_rfl) (by kernel_rfl) hS.drew ?_
    simp only [Act.put]
    clear hS
    repeat go_big_quiet_step (fail)
    refine wpQuiet_nil ?_
    intro z
    obtain ⟨W, hW⟩ := z
    dsimp only
    clear ne k0 k1 kp
    go_wp2
    go_ret
    exact ⟨by rw [E.out]; rfl, hW.bw⟩
   have hrt : Hid (okR v p (j + 1) = true) := hid (by rw [hO, decide_eq_true h3]; rfl)
   have q3 : ¬ t.signer <= pv := by omega
   clear hO h3
   refine qat (RiAt w G t ad p) (by kernel_rfl) (by kernel_rfl) hS.drew ?_
   simp only [Act.put]
   clear hS
   repeat go_big_quiet_step (fail)
   refine wpQuiet_nil ?_
   intro z
   obtain ⟨W, hW⟩ := z
   dsimp only
   clear ne k0 k1 kp
   go_wp2
   go_roundw
   case rel =>
    refine ⟨j + 2, by go_num, by omega, hid (fun i hi => ?_), hW.bw⟩
    rcases Nat.lt_or_ge i (j + 1) with h | h
    ·exact hok.out i h
    ·obtain rfl : i = j + 1 := by omega
     exact hrt.out
   case measure => simp [RowKit.intOf]; omega
  ·obtain rfl : k = n := by omega
   have E := hid (show r = 0 by rw [HR.out]; rw [qmw (fun j hj => hok.out j (by have := HN.out; omega))]; rfl)
   go_wp2_with fail
   go_ret
   exact ⟨by rw [E.out]; rfl, hb⟩
end Go.Proofs.YtomaaidhmccngaaGreatDoor
namespace Go.Proofs.YtomaaidhmccngaaGreatDoor
open Go.RowKit Go.Maps Go.Lib
open L3 (Blk Reads)
open L6 (Turn In)
open L11 (Crt zeroC crtL crtC endV mayV stmV stmC Stm qaj)
open L4 (more)
def TT (U : Nat -> Prop) (w : World) : Prop := ∀ W, Turn U w W -> T13 W
theorem TT.here {U : Nat -> Prop} {w : World} (h : TT U w) : T13 w := h w (Turn.refl _ _)
theorem TT.next {U V : Nat -> Prop} {w w1 : World} (h : TT U w) (ht : Turn U w w1) (hs : ∀ k, V k -> U k ∨ w.heap.size <= k) : TT V w1 := fun W hW => h W (ht.trans hW hs)
theorem TT.below {U : Nat -> Prop} {w w1 : World} (h : TT U w) (hb : Below w.heap.size w w1) : TT U w1 := h.next (L6.Turn.of_keep hb) (fun _ => .inl)
theorem each_any {U : Nat -> Prop} {b g c : Nat} {R : Regs} {N : List Int} {B : Nat} (A : Option Addr) (cp : Nat) (p : List Tmo) (w : World) (h : Trio U b g c R N B w) (hw : R.wf) (hB : B + p.length <= 1000000) (hp : Rd tmL 10 w A p) (hwf : ∀ t ∈ p, t.wf) (hT : TT U w) (ho : p.length ≠ 0 -> Off U A) :
 Calls Tryz.prog 74 #[.agg (triA (some ⟨b, 0, none⟩) (some ⟨g, 0, none⟩) (some ⟨c, 0, none⟩) R.f), .slice A p.length cp] w fun e W' =>
  e = .returned (.int .i64 (eachE R p)) /\ Rch w U b g c R (eachN R N p) (B + p.length) W' := by
 have hb0 := qae w (.cells (triA (some ⟨b, 0, none⟩) (some ⟨g, 0, none⟩) (some ⟨c, 0, none⟩) R.f) 106)
 have hk0 : Blk (w.alloc (.cells (triA (some ⟨b, 0, none⟩) (some ⟨g, 0, none⟩) (some ⟨c, 0, none⟩) R.f) 106)) w.heap.size 106 (triA (some ⟨b, 0, none⟩) (some ⟨g, 0, none⟩) (some ⟨c, 0, none⟩) R.f) := Blk.new _ _ _
 have Z0 := hid (And.intro hk0 (And.intro hb0 (And.intro (h.below hb0) (And.intro (hp.below hb0) (hT.below hb0)))))
 have HI := hid (fun hU => by have := h.inU w.heap.size hU; omega : ¬ U w.heap.size)
 have HW := hid hw
 have HF := hid hwf
 have HO := hid ho
 obtain ⟨n, en⟩ := nm (p.length)
 rw [<- en] at hB ho
 rw [<- en]
 have HN := hid en
 obtain ⟨r, er⟩ := nm (eachE R p)
 obtain ⟨N', eN'⟩ : ∃ x, x = eachN R N p := ⟨_, rfl⟩
 rw [<- er, <- eN']
 have HR := hid (And.intro er eN')
 clear hb0 hk0 h hw hp hwf hT ho en er eN'
 go_enter Tryz.func74, Tryz.ntmps74
 go_upto_region 1 with fail
 refine qab (fun w0 hw0 => ?_)
 have hA : Blk w0 w.heap.size 106 (triA (some ⟨b, 0, none⟩) (some ⟨g, 0, none⟩) (some ⟨c, 0, none⟩) R.f) /\ Below w.heap.size w w0 /\ Trio U b g c R N B w0 /\ Rd tmL 10 w0 A p /\ TT U w0 := by rw [hw0]; exact Z0.out
 clear hw0 Z0
 obtain ⟨k0, hb0, hTr, hRd, hTT⟩ := hA
 have HB0 := hid hb0
 have HTT := hid hTT
 have HRd := hid hRd
 have hst := Rch.start hTr
 clear hb0 hTT hRd hTr
 go_wp2
 go_loopw [10] (fun i wr => ∃ (k : Nat) (M : List Int), i = .int .i64 k /\ k <= n /\ Hid (eachE R p = eachE R (p.drop k) /\ eachN R N p = eachN R M (p.drop k)) /\ Rch w0 U b g c R M (B + k) wr) (fun i _ => n - (RowKit.intOf i).toNat)
 case atStart => exact ⟨0, N, rfl, Nat.zero_le _, hid ⟨rfl, rfl⟩, hst⟩
 case round =>
  obtain ⟨k, M, rfl, hk, hok, hch⟩ := hrel
  clear hst
  by_cases hlt : k < n
  ·have hkL : k < p.length := by have := HN.out; omega
   have hRr := HRd.out.kept2 hch.tn HO.out
   obtain ⟨ad, e', hadl, hcs⟩ := hRr k hkL
   have htw := HF.out _ (List.getElem_mem hkL)
   have hdr : p.drop k = p[k] :: p.drop (k + 1) := List.drop_eq_getElem_cons hkL
   obtain ⟨t, ht⟩ := nm (p[k])
   rw [<- ht] at hcs htw hdr
   have hcs1 : ∀ j u, (tmL t)[j]? = some u -> wr.cell? ((ad.add (k * 10)).add j) = some u := hcs
   have hkr : Blk wr w.heap.size 106 (triA (some ⟨b, 0, none⟩) (some ⟨g, 0, none⟩) (some ⟨c, 0, none⟩) R.f) := hch.blk k0 HI.out
   have hE1 := hok.out.1
   have hE2 := hok.out.2
   rw [hdr, qfM] at hE1
   rw [hdr, qeq] at hE2
   have HE := hid (And.intro hE1 hE2)
   clear hE1 hE2 hdr ht hcs hok hRr hadl
   subst e'
   go_upto_region 4 with (first
    | (refine qai rfl _ _ rfl (ad.add (k * 10)) rfl (tmL t) _ hcs1 Tryz.underlying31 rfl tmInfo ?_)
    | (refine qaf rfl _ _ _ rfl wr (tmC t) rfl rfl _ _ tmInfo rfl (qbX _) ?_))
   have hb1 := qae wr (.cells (tmC t) 31)
   have hx1 := qc0 wr 31 t
   have hk1 := hkr.below hb1 hkr.lt
   have hch1 := hch.below hb1
   obtain ⟨G, hG⟩ := nm (wr.heap.size)
   rw [<- hG] at hx1
   rw [<- hG]
   refine qab (fun w1 hw1' => ?_)
   rw [<- hw1'] at hx1 hk1 hch1
   clear hw1' hG hb1 hcs1 hkr hch
   have hlc := qdK hk1
   obtain ⟨V, hV, hVs⟩ := hch1.ex
   have htn := hch1.tn
   have hC := qmP t w1 hV HW.out (by omega) htw (HTT.out.next htn hVs).here
   have HC := hid hC
   have HV := hid (fun (N2 : List Int) (W' : World) (k2 : Rch w1 V b g c R N2 (B + k + 1) W') => Rch.then htn hVs k2)
   clear hC hV hVs htn hch1
   go_upto_region 5 with (first
    | (refine qai rfl _ _ rfl ⟨w.heap.size, 0, none⟩ rfl (lawA (some ⟨b, 0, none⟩) (some ⟨g, 0, none⟩) (some ⟨c, 0, none⟩)).toList _ hlc Tryz.underlying39 rfl lawInfo ?_)
    | (refine qaa rfl _ _ rfl G rfl _ _ _ _ hx1 Tryz.underlying31 rfl tmInfo ?_)
    | (go_at_call 13; refine HC.out.mono ?_; rintro e w2 ⟨rfl, hch2⟩))
   have hfin := HV.out _ _ hch2
   clear hch2 HC HV hlc hx1 hk1
   by_cases hq : timE R t = 0
   ·have HE2 := hid (show eachE R p = eachE R (p.drop (k + 1)) /\ eachN R N p = eachN R (timN R M t) (p.drop (k + 1)) by
     have := HE.out
     simpa [hq] using this)
    rw [hq]
    clear hq HE
    go_wp2
    go_roundw
    case rel => exact ⟨k + 1, timN R M t, by go_num, by omega, HE2, hfin⟩
    case measure => simp [RowKit.intOf]; omega
   ·have HE2 := hid (show r = timE R t /\ N' = timN R M t by
     have := HE.out
     rw [if_pos hq, if_pos hq] at this
     exact ⟨HR.out.1.trans this.1, HR.out.2.trans this.2⟩)
    obtain ⟨q, eq⟩ := nm (timE R t)
    rw [<- eq] at hq HE2 ⊢
    have h1 : (q != 0) = true := by simpa using hq
    clear hq HE eq
    go_wp2
    go_ret
    exact ⟨by rw [HE2.out.1]; rfl, by rw [HE2.out.2]; exact Rch.then (L6.Turn.of_keep HB0.out) (fun _ => .inl) (hfin.le (by omega))⟩
  ·obtain rfl : k = n := by omega
   have HE2 := hid (show r = 0 /\ N' = M by
    have h1 := hok.out
    rw [List.drop_eq_nil_of_le (by have := HN.out; omega)] at h1
    exact ⟨HR.out.1.trans h1.1, HR.out.2.trans h1.2⟩)
   go_wp2_with fail
   go_ret
   exact ⟨by rw [HE2.out.1]; rfl, by rw [HE2.out.2]; exact Rch.then (L6.Turn.of_keep HB0.out) (fun _ => .inl) hch⟩
theorem qjk (pb pc : Option Addr) (a : Addr) (f : Int) (w : World) : Calls Tryz.prog 75 #[.agg (triA pb (some a) pc f)] w (gives (.int .i64 0) w) := by
 have hb0 := qae w (.cells (triA pb (some a) pc f) 106)
 have hk0 : Blk (w.alloc (.cells (triA pb (some a) pc f) 106)) w.heap.size 106 (triA pb (some a) pc f) := Blk.new _ _ _
 have c1 : (w.alloc (.cells (triA pb (some a) pc f) 106)).cell? ⟨w.heap.size, 1, none⟩ = some (.pointer (some a)) := hk0.cell 1
 clear hk0
 go_enter Tryz.func75, Tryz.ntmps75
 go_wp2
 go_ret
 exact ⟨rfl, hb0⟩
theorem qiu (pb pg pc : Option Addr) (f : Int) (A : Option Addr) (n cp : Nat) (w : World) (hn : n <= maxLen) :
 Calls Tryz.prog 77 #[.agg (triA pb pg pc f), .slice A n cp] w (gives (.int .i64 (if (n : Int) < more 2 f then 61 else 0)) w) := by
 have hb0 := qae w (.cells (triA pb pg pc f) 106)
 have hk0 : Blk (w.alloc (.cells (triA pb pg pc f) 106)) w.heap.size 106 (triA pb pg pc f) := Blk.new _ _ _
 have c1 : (w.alloc (.cells (triA pb pg pc f) 106)).cell? ⟨w.heap.size, 3, none⟩ = some (.int .i64 f) := hk0.cell 3
 obtain ⟨q, hq⟩ := nm (more 2 f)
 have hQ := fun W => L4.qfW f W
 rw [<- hq] at hQ ⊢
 clear hk0 hq
 by_cases h : (n : Int) < q
 ·rw [if_pos h]
  go_enter Tryz.func77, Tryz.ntmps77
  go_wp2_with (first
   | (go_at_call 56; refine (hQ _).mono ?_; rintro e w1 ⟨rfl, rfl⟩))
  go_ret
  exact ⟨rfl, hb0⟩
 ·rw [if_neg h]
  go_enter Tryz.func77, Tryz.ntmps77
  go_wp2_with (first
   | (go_at_call 56; refine (hQ _).mono ?_; rintro e w1 ⟨rfl, rfl⟩))
  go_ret
  exact ⟨rfl, hb0⟩
end Go.Proofs.YtomaaidhmccngaaGreatDoor
namespace Go.Proofs.YtomaaidhmccngaaGreatDoor
open Go.RowKit Go.Maps Go.Lib
open L3 (Blk Reads)
open L6 (Turn In)
open L11 (Crt zeroC crtL crtC endV mayV stmV stmC Stm qaj)
open L4 (more)
theorem ent_p1 : Enters 71 := enters_of Tryz.func71 (by kernel_rfl) rfl
theorem ent_p2 : Enters 73 := enters_of Tryz.func73 (by kernel_rfl) rfl
theorem ent_p3 : Enters 76 := enters_of Tryz.func76 (by kernel_rfl) rfl
theorem ent_kn : Enters 75 := enters_of Tryz.func75 (by kernel_rfl) rfl
structure BoxP (gv gp gt : Nat) (v : Int) (s : Value) (t : Array Value) (W : World) : Prop where
 bv : Blk W gv 3 #[.int .i64 v]
 bp : Blk W gp 32 #[s]
 bt : Blk W gt 106 t
theorem BoxP.below {gv gp gt : Nat} {v : Int} {s : Value} {t : Array Value} {W W' : World} (h : BoxP gv gp gt v s t W) (hb : Below W.heap.size W W') : BoxP gv gp gt v s t W' := ⟨h.bv.below hb h.bv.lt, h.bp.below hb h.bp.lt, h.bt.below hb h.bt.lt⟩
theorem p1_any (gv gp gt : Nat) (v : Int) (A : Option Addr) (n cp : Nat) (t : Array Value) (e1 : Int) (W : World) (hb : BoxP gv gp gt v (.slice A n cp) t W) (h1 : Calls Tryz.prog 72 #[.int .i64 v, .slice A n cp] W (gives (.int .i64 e1) W)) :
 Calls Tryz.prog 71 #[.pointer (some ⟨gv, 0, none⟩), .pointer (some ⟨gp, 0, none⟩)] W (gives (.int .i64 e1) W) := by
 have c0 : W.cell? ⟨gv, 0, none⟩ = some (.int .i64 v) := hb.bv.cell 0
 have c1 : W.cell? ⟨gp, 0, none⟩ = some (.slice A n cp) := hb.bp.cell 0
 clear hb
 go_enter Tryz.func71, Tryz.ntmps71
 go_wp2_with (first
  | (go_at_call 72; refine h1.mono ?_; unfold gives; rintro e w1 ⟨rfl, hb1⟩))
 go_ret
 exact ⟨rfl, hb1⟩
theorem p2_any (gv gp gt : Nat) (v : Int) (A : Option Addr) (n cp : Nat) (t : Array Value) (E : Int -> World -> Prop) (W : World) (hts : (Tryz.prog.info? 106).map (·.size) = some t.size) (hb : BoxP gv gp gt v (.slice A n cp) t W)
 (h2 : Calls Tryz.prog 74 #[.agg t, .slice A n cp] W (fun e W' => ∃ v, e = .returned (.int .i64 v) /\ E v W')) :
 Calls Tryz.prog 73 #[.pointer (some ⟨gt, 0, none⟩), .pointer (some ⟨gp, 0, none⟩)] W (fun e W' => ∃ v, e = .returned (.int .i64 v) /\ E v W') := by
 have c1 : W.cell? ⟨gp, 0, none⟩ = some (.slice A n cp) := hb.bp.cell 0
 have hbt := hb.bt
 clear hb
 go_enter Tryz.func73, Tryz.ntmps73
 go_wp2_with (first
  | (refine qaa rfl _ _ rfl gt rfl _ _ _ _ hbt Tryz.underlying106 rfl hts ?_)
  | (go_at_call 74; refine h2.mono ?_; rintro e w1 ⟨v, rfl, hE⟩))
 go_ret
 exact ⟨v, rfl, hE⟩
theorem p3_any (gv gp gt : Nat) (v : Int) (A : Option Addr) (n cp : Nat) (t : Array Value) (e3 : Int) (W : World) (hts : (Tryz.prog.info? 106).map (·.size) = some t.size) (hb : BoxP gv gp gt v (.slice A n cp) t W)
 (h3 : Calls Tryz.prog 77 #[.agg t, .slice A n cp] W (gives (.int .i64 e3) W)) :
 Calls Tryz.prog 76 #[.pointer (some ⟨gt, 0, none⟩), .pointer (some ⟨gp, 0, none⟩)] W (gives (.int .i64 e3) W) := by
 have c1 : W.cell? ⟨gp, 0, none⟩ = some (.slice A n cp) := hb.bp.cell 0
 have hbt := hb.bt
 clear hb
 go_enter Tryz.func76, Tryz.ntmps76
 go_wp2_with (first
  | (refine qaa rfl _ _ rfl gt rfl _ _ _ _ hbt Tryz.underlying106 rfl hts ?_)
  | (go_at_call 77; refine h3.mono ?_; unfold gives; rintro e w1 ⟨rfl, hb1⟩))
 go_ret
 exact ⟨rfl, hb1⟩
abbrev proFs (gv gp gt : Nat) (t : Array Value) : List Fnc := [(71, #[], #[.pointer (some ⟨gv, 0, none⟩), .pointer (some ⟨gp, 0, none⟩)]), (73, #[], #[.pointer (some ⟨gt, 0, none⟩), .pointer (some ⟨gp, 0, none⟩)]), (75, #[.agg t], #[]), (76, #[], #[.pointer (some ⟨gt, 0, none⟩), .pointer (some ⟨gp, 0, none⟩)])]
structure ProQ (w : World) (bs gv gp gt : Nat) (v : Int) (s : Value) (t : Array Value) (U : Nat -> Prop) (b g c : Nat) (R : Regs) (N : List Int) (B : Nat) (p : List Tmo) (k : Nat) (W : World) : Prop where
 bf : Blk W bs 109 ((proFs gv gp gt t).map fncV).toArray
 bx : BoxP gv gp gt v s t W
 bw : k <= 1 -> Below w.heap.size w W
 h1 : 1 <= k -> risV v p = true
 h2 : 2 <= k -> eachE R p = 0 /\ Rch w U b g c R (eachN R N p) (B + p.length) W
 h4 : 4 <= k -> ¬ (p.length : Int) < more 2 R.f
def proP (w : World) (U : Nat -> Prop) (b g c : Nat) (R : Regs) (N : List Int) (B : Nat) (v : Int) (p : List Tmo) (q : Int) (W : World) : Prop := q = proE R v p /\ Rch w U b g c R (proN R N v p) (B + p.length) W
theorem qmi {U : Nat -> Prop} {b g c : Nat} {R : Regs} {N : List Int} {B : Nat} (w : World) (gv gp gt : Nat) (v : Int) (A : Option Addr) (cp : Nat) (p : List Tmo) (h : Trio U b g c R N B w) (hw : R.wf) (hB : B + p.length <= 1000000) (hp : Rd tmL 10 w A p) (hwf : ∀ t ∈ p, t.wf) (hT : TT U w) (ho : p.length ≠ 0 -> Off U A)
 (hgv : w.heap.size <= gv) (hgp : w.heap.size <= gp) (hgt : w.heap.size <= gt) (W : World) (hW : Below w.heap.size w W) (hb : BoxP gv gp gt v (.slice A p.length cp) (triA (some ⟨b, 0, none⟩) (some ⟨g, 0, none⟩) (some ⟨c, 0, none⟩) R.f) W) :
 Calls Tryz.prog 50 #[.slice (some ⟨W.heap.size, 0, none⟩) 4 4] (W.alloc (.cells ((proFs gv gp gt (triA (some ⟨b, 0, none⟩) (some ⟨g, 0, none⟩) (some ⟨c, 0, none⟩) R.f)).map fncV).toArray 109)) (fun e W' => ∃ q, e = .returned (.int .i64 q) /\ proP w U b g c R N B v p q W') := by
 obtain ⟨t, ht⟩ := nm (triA (some ⟨b, 0, none⟩) (some ⟨g, 0, none⟩) (some ⟨c, 0, none⟩) R.f)
 have hts : (Tryz.prog.info? 106).map (·.size) = some t.size := by rw [ht]; exact triInfo
 rw [<- ht] at hb ⊢
 have hb0 := qae W (.cells ((proFs gv gp gt t).map fncV).toArray 109)
 have hsz := hW.size
 have hU : ∀ k, w.heap.size <= k -> ¬ U k := fun k hk hUk => by have := h.inU k hUk; omega
 refine Calls.mono (qdG (proFs gv gp gt t) W.heap.size 4 (ProQ w W.heap.size gv gp gt v (.slice A p.length cp) t U b g c R N B p) (proP w U b g c R N B v p) _ (by simp) (by simp) (fun k V _ h => h.bf) ?_ ?_ ?_) ?_
 ·intro f hf
  simp only [List.mem_cons, List.not_mem_nil, or_false] at hf
  rcases hf with rfl | rfl | rfl | rfl
  ·exact ent_p1
  ·exact ent_p2
  ·exact ent_kn
  ·exact ent_p3
 ·intro k hk V q
  have hk4 : k < 4 := hk
  obtain rfl | rfl | rfl | rfl : k = 0 ∨ k = 1 ∨ k = 2 ∨ k = 3 := by omega
  ·have hwV := q.bw (by omega)
   refine (p1_any gv gp gt v A p.length cp t _ V q.bx (qkB v A cp p V (hp.below hwV) (by unfold maxLen; omega))).mono ?_
   rintro e V' ⟨rfl, hb'⟩
   refine ⟨_, rfl, fun h0 => ⟨q.bf.below hb' q.bf.lt, q.bx.below hb', fun _ => nxt hwV hb', fun _ => ?_, fun h => by omega, fun h => by omega⟩, fun h0 => ?_⟩
   ·cases hr : risV v p
    ·rw [hr] at h0; exact absurd h0 (by decide)
    ·rfl
   ·have hr : risV v p = false := by
     cases hr : risV v p
     ·rfl
     ·rw [hr] at h0; exact absurd rfl h0
    unfold proP proE proN errI
    rw [hr]
    exact ⟨rfl, ((Rch.start h).below (nxt hwV hb')).le (by omega)⟩
  ·have hwV := q.bw (by omega)
   have g1 := q.h1 (by omega)
   refine (p2_any gv gp gt v A p.length cp t (fun q W' => q = eachE R p /\ Rch V U b g c R (eachN R N p) (B + p.length) W') V hts q.bx ?_).mono ?_
   ·rw [ht]
    refine (each_any A cp p V (h.below hwV) hw hB (hp.below hwV) hwf (hT.below hwV) ho).mono ?_
    rintro e V' ⟨rfl, hR⟩
    exact ⟨_, rfl, rfl, hR⟩
   rintro e V' ⟨_, rfl, rfl, hR⟩
   have hR2 : Rch w U b g c R (eachN R N p) (B + p.length) V' := Rch.then (L6.Turn.of_keep hwV) (fun _ => .inl) hR
   refine ⟨_, rfl, fun h0 => ⟨hR.tn.blk q.bf (hU _ hsz), ⟨hR.tn.blk q.bx.bv (hU _ hgv), hR.tn.blk q.bx.bp (hU _ hgp), hR.tn.blk q.bx.bt (hU _ hgt)⟩, fun h => by omega, fun _ => g1, fun _ => ⟨h0, hR2⟩, fun h => by omega⟩, fun h0 => ?_⟩
   unfold proP proE proN
   rw [g1, if_neg (by simp), if_pos h0, if_neg (by simp)]
   exact ⟨rfl, hR2⟩
  ·have g1 := q.h1 (by omega)
   have g2 := q.h2 (by omega)
   have hkn := qjk (some ⟨b, 0, none⟩) (some ⟨c, 0, none⟩) ⟨g, 0, none⟩ R.f V
   rw [<- ht] at hkn
   refine hkn.mono ?_
   rintro e V' ⟨rfl, hb'⟩
   exact ⟨0, rfl, fun _ => ⟨q.bf.below hb' q.bf.lt, q.bx.below hb', fun h => by omega, fun _ => g1, fun _ => ⟨g2.1, g2.2.below hb'⟩, fun h => by omega⟩, fun h0 => absurd rfl h0⟩
  ·have g1 := q.h1 (by omega)
   have g2 := q.h2 (by omega)
   have hen := qiu (some ⟨b, 0, none⟩) (some ⟨g, 0, none⟩) (some ⟨c, 0, none⟩) R.f A p.length cp V (by unfold maxLen; omega)
   rw [<- ht] at hen
   refine (p3_any gv gp gt v A p.length cp t _ V hts q.bx hen).mono ?_
   rintro e V' ⟨rfl, hb'⟩
   have hE : (if (p.length : Int) < more 2 R.f then (61 : Int) else 0) = proE R v p := by
    simp [proE, g1, g2.1]
   have hN : proN R N v p = eachN R N p := by unfold proN; rw [g1, if_neg (by simp)]
   refine ⟨_, rfl, fun h0 => ⟨q.bf.below hb' q.bf.lt, q.bx.below hb', fun h => by omega, fun _ => g1, fun _ => ⟨g2.1, g2.2.below hb'⟩, fun _ hlt => ?_⟩, fun h0 => ?_⟩
   ·rw [if_pos hlt] at h0; exact absurd h0 (by decide)
   ·unfold proP
    rw [hN]
    exact ⟨hE, g2.2.below hb'⟩
 ·exact ⟨Blk.new _ _ _, hb.below hb0, fun _ => nxt hW hb0, fun h => by omega, fun h => by omega, fun h => by omega⟩
 ·rintro e V ⟨q, rfl, hq, hp'⟩
  refine ⟨q, rfl, ?_⟩
  by_cases hv : q = 0
  ·have s := hq hv
   subst hv
   have g1 := s.h1 (by simp)
   have g2 := s.h2 (by simp)
   have g4 := s.h4 (by simp)
   unfold proP proE proN
   rw [g1, if_neg (by simp), g2.1, if_neg (by simp), if_neg g4, if_neg (by simp)]
   exact ⟨rfl, g2.2⟩
  ·exact hp' hv
theorem qd8 (w : World) (t u s : TypeId) (x y z : Array Value) : Blk (((w.alloc (.cells x t)).alloc (.cells y u)).alloc (.cells z s)) w.heap.size t x /\ Blk (((w.alloc (.cells x t)).alloc (.cells y u)).alloc (.cells z s)) (w.heap.size + 1) u y /\ Blk (((w.alloc (.cells x t)).alloc (.cells y u)).alloc (.cells z s)) (w.heap.size + 2) s z /\ Below w.heap.size w (((w.alloc (.cells x t)).alloc (.cells y u)).alloc (.cells z s)) := by
 obtain ⟨h1, h2, h3⟩ := qaO w t u x y
 refine ⟨h1.alloc _, h2.alloc _, ?_, h3.alloc h3.size _⟩
 have := Blk.new ((w.alloc (.cells x t)).alloc (.cells y u)) s z
 simpa using this
theorem qmh {U : Nat -> Prop} {b g c : Nat} {R : Regs} {N : List Int} {B : Nat} (w : World) (v : Int) (A : Option Addr) (cp : Nat) (p : List Tmo) (h : Trio U b g c R N B w) (hw : R.wf) (hB : B + p.length <= 1000000) (hp : Rd tmL 10 w A p) (hwf : ∀ t ∈ p, t.wf) (hT : TT U w) (ho : p.length ≠ 0 -> Off U A) :
 Calls Tryz.prog 15 #[.agg (lawA (some ⟨b, 0, none⟩) (some ⟨g, 0, none⟩) (some ⟨c, 0, none⟩)), .int .i64 v, .slice A p.length cp] w (fun e W' => ∃ q, e = .returned (.int .i64 q) /\ proP w U b g c R N B v p q W') := by
 have Z0 := hid (qd8 w 39 3 32 (lawA (some ⟨b, 0, none⟩) (some ⟨g, 0, none⟩) (some ⟨c, 0, none⟩)) #[.int .i64 v] #[.slice A p.length cp])
 have HT := hid (fun W (hb : Below w.heap.size w W) => qf1 (some ⟨b, 0, none⟩) (some ⟨g, 0, none⟩) (some ⟨c, 0, none⟩) R.f W (fun W' hb' => qmU (h.below (nxt hb hb'))))
 have HF := hid (fun gt (hgt : w.heap.size <= gt) W hW hb => qmi w (w.heap.size + 1) (w.heap.size + 2) gt v A cp p h hw hB hp hwf hT ho (by omega) (by omega) hgt W hW hb)
 obtain ⟨n, en⟩ := nm (p.length)
 rw [<- en] at Z0 HF
 rw [<- en]
 have hmf := qgz
 clear h hw hB hp hwf hT ho en
 go_enter Tryz.func15, Tryz.ntmps15
 go_upto_region 1 with fail
 refine qab (fun w0 hw0 => ?_)
 have hA : Blk w0 w.heap.size 39 (lawA (some ⟨b, 0, none⟩) (some ⟨g, 0, none⟩) (some ⟨c, 0, none⟩)) /\ Blk w0 (w.heap.size + 1) 3 #[.int .i64 v] /\ Blk w0 (w.heap.size + 2) 32 #[.slice A n cp] /\ Below w.heap.size w w0 := by rw [hw0]; exact Z0.out
 clear hw0 Z0
 obtain ⟨k0, k1, k2, hb0⟩ := hA
 go_upto_region 2 with (first
  | (refine qaa rfl _ _ rfl w.heap.size rfl _ _ _ _ k0 Tryz.underlying39 rfl lawInfo ?_)
  | (go_at_call 49; refine (HT.out _ hb0).mono ?_; unfold gives; rintro e w2 ⟨rfl, hb2⟩)
  | (refine qaf rfl _ _ _ rfl _ (triA (some ⟨b, 0, none⟩) (some ⟨g, 0, none⟩) (some ⟨c, 0, none⟩) R.f) rfl rfl _ _ triInfo rfl (qef _ _ _ _) ?_))
 have hb3 := qae w2 (.cells (triA (some ⟨b, 0, none⟩) (some ⟨g, 0, none⟩) (some ⟨c, 0, none⟩) R.f) 106)
 have hx3 : Blk (w2.alloc (.cells (triA (some ⟨b, 0, none⟩) (some ⟨g, 0, none⟩) (some ⟨c, 0, none⟩) R.f) 106)) w2.heap.size 106 (triA (some ⟨b, 0, none⟩) (some ⟨g, 0, none⟩) (some ⟨c, 0, none⟩) R.f) := Blk.new _ _ _
 have k12 := k1.below hb2 k1.lt
 have k22 := k2.below hb2 k2.lt
 have k13 := k12.below hb3 k12.lt
 have k23 := k22.below hb3 k22.lt
 have hw3 := nxt (nxt hb0 hb2) hb3
 have hgt : w.heap.size <= w2.heap.size := by have := k12.lt; omega
 obtain ⟨G, hG⟩ := nm (w2.heap.size)
 rw [<- hG] at hx3 hgt
 rw [<- hG]
 refine qab (fun w3 hw3' => ?_)
 rw [<- hw3'] at hx3 k13 k23 hw3
 clear hw3' hG hb3 k12 k22 hb2 k0 k1 k2 hb0 HT
 have hC := HF.out G hgt w3 hw3 ⟨k13, k23, hx3⟩
 have HC := hid hC
 clear hC HF hw3 hgt k13 k23
 go_wp2_with (first
  | (refine qaa rfl _ _ rfl G rfl _ _ _ _ hx3 Tryz.underlying106 rfl triInfo ?_)
  | (refine wpList_buildSlice rfl _ _ _ rfl #[(0, fncV (71, #[], #[.pointer (some ⟨w.heap.size + 1, 0, none⟩), .pointer (some ⟨w.heap.size + 2, 0, none⟩)])), (1, fncV (73, #[], #[.pointer (some ⟨G, 0, none⟩), .pointer (some ⟨w.heap.size + 2, 0, none⟩)])), (2, fncV (75, #[.agg (triA (some ⟨b, 0, none⟩) (some ⟨g, 0, none⟩) (some ⟨c, 0, none⟩) R.f)], #[])), (3, fncV (76, #[], #[.pointer (some ⟨G, 0, none⟩), .pointer (some ⟨w.heap.size + 2, 0, none⟩)]))] rfl (qhX _ _ _ _ _) ?_)
  | (go_at_call 50; refine HC.out.mono ?_; rintro e w5 ⟨q, rfl, hv⟩))
 go_ret
 exact ⟨q, rfl, hv⟩
end Go.Proofs.YtomaaidhmccngaaGreatDoor
namespace Go.Proofs.YtomaaidhmccngaaGreatDoor
open Go.RowKit Go.Maps Go.Lib
open L3 (Blk Reads)
open L6 (Turn In)
open L11 (Crt zeroC crtL crtC endV mayV stmV stmC Stm cmpV qaj)
theorem c_max (a b : Crt) (w : World) : Calls Tryz.prog 78 #[.agg (crtC a), .agg (crtC b)] w (gives (.agg (crtC (maxV a b))) w) := L11.max_any a b w
theorem qin (w : World) : (Instr.build 29 #[]).run Tryz.prog w = .ok (.agg (crtC zeroC)) w := run_build w _ _ _ (by kernel_rfl)
theorem qet {w : World} {ad : Addr} {t : Tmo} (h : ∀ j u, (tmL t)[j]? = some u -> w.cell? (ad.add j) = some u) : ∀ j u, (crtL t.high)[j]? = some u -> w.cell? ((ad.add 2).add j) = some u := fun j u hj => by
 have h1 : (tmL t)[2 + j]? = some u := by have := qfc t j u hj; rw [<- tmC_eq, Array.getElem?_toList]; exact this
 rw [Addr.add_add]
 exact h _ _ h1
theorem qhs (t : Tmo) (ts : List Tmo) (k : Nat) (hk : k < ts.length) : highV (t :: ts.take (k + 1)) = maxV (highV (t :: ts.take k)) ts[k].high := by
 rw [List.take_succ_eq_append_getElem hk, <- List.cons_append, qlB]
structure HiAt (w : World) (G : Nat) (ad : Addr) (p : List Tmo) (c : Crt) (W : World) : Prop where
 bz : Blk W w.heap.size 29 (crtC zeroC)
 bg : Blk W G 29 (crtC c)
 rd : Rd tmL 10 W (some ad) p
 bw : Below w.heap.size w W
theorem HiAt.below {w : World} {G : Nat} {ad : Addr} {p : List Tmo} {c : Crt} {W W' : World} (h : HiAt w G ad p c W) (hb : Below W.heap.size W W') : HiAt w G ad p c W' := ⟨h.bz.below hb h.bz.lt, h.bg.below hb h.bg.lt, h.rd.below hb, nxt h.bw hb⟩
theorem HiAt.row {w : World} {G : Nat} {ad : Addr} {p : List Tmo} {c : Crt} {W : World} (h : HiAt w G ad p c W) (hne : w.heap.size < G) (had : ad.block < G) (c' : Crt) : HiAt w G ad p c' (W.setRow G (crtC c')) := by
 have ht := qaB W G (crtC c')
 refine ⟨ht.blk h.bz (by omega), qac h.bg, h.rd.kept ht (fun a ha => ?_), below_setRow h.bw (Nat.le_of_lt hne)⟩
 injection ha with ha
 subst ha
 show ¬ (ad.block = G)
 omega
theorem qfd (A : Option Addr) (cp : Nat) (p : List Tmo) (w : World) (hp : Rd tmL 10 w A p) (hn : p.length <= 1000000) (hcp : p.length <= cp) :
 Calls Tryz.prog 17 #[.slice A p.length cp] w (gives (.agg (crtC (highV p))) w) := by
 have hb0 := qae w (.cells (crtC zeroC) 29)
 have hk0 : Blk (w.alloc (.cells (crtC zeroC) 29)) w.heap.size 29 (crtC zeroC) := Blk.new _ _ _
 rcases p with _ | ⟨t, ts⟩
 ·clear hp hn hcp
  obtain ⟨n, hn⟩ := nm (([] : List Tmo).length)
  go_enter Tryz.func17, Tryz.ntmps17
  go_wp2_with (first
   | (refine wpList_build rfl _ _ rfl #[] rfl (qin _) ?_)
   | (refine wpList_store_row rfl _ _ _ rfl w.heap.size (crtC zeroC) rfl rfl _ _ hk0 L11.crtInfo rfl (L11.qal _) ?_))
  (try simp only [Exit.inBlock, Exit.then])
  refine bodyPost_ret (v := .agg (crtC zeroC)) (qan rfl _ _ w.heap.size rfl _ _ _ _ (qac hk0) Tryz.underlying29 rfl L11.crtInfo) rfl ?_
  exact ⟨rfl, below_setRow hb0 (Nat.le_refl _)⟩
 ·obtain ⟨ad, e', hadl, hcs⟩ := hp 0 (by simp)
  subst e'
  have hcs0 : ∀ j u, (crtL t.high)[j]? = some u -> w.cell? ((ad.add 2).add j) = some u := qet (t := t) (by simpa [Addr.add] using hcs)
  have hlen : (t :: ts).length = ts.length + 1 := rfl
  obtain ⟨n, hn'⟩ : ∃ n, n = ts.length := ⟨_, rfl⟩
  rw [hlen, <- hn'] at hn hcp
  rw [hlen, <- hn']
  have HN := hid hn'
  have HP := hid hp
  have Z0 := hid (And.intro hk0 (And.intro hb0 (And.intro (hp.below hb0) (fun j u (hj : (crtL t.high)[j]? = some u) => (hb0.cell (by rw [L3.qaz, L3.qaz]; exact hadl)).trans (hcs0 j u hj)))))
  clear hp hn' hcs hcs0 hlen hk0 hb0 HP
  go_enter Tryz.func17, Tryz.ntmps17
  go_upto_region 1 with fail
  refine qab (fun w0 hw0 => ?_)
  have hA : Blk w0 w.heap.size 29 (crtC zeroC) /\ Below w.heap.size w w0 /\ Rd tmL 10 w0 (some ad) (t :: ts) /\ (∀ j u, (crtL t.high)[j]? = some u -> w0.cell? ((ad.add 2).add j) = some u) := by rw [hw0]; exact Z0.out
  clear hw0 Z0
  obtain ⟨k0, hb0, hRd, hcs1⟩ := hA
  go_upto_region 4 with (first
   | (refine qai rfl _ _ rfl (ad.add 2) rfl (crtL t.high) _ hcs1 Tryz.underlying29 rfl L11.crtInfo ?_)
   | (refine qaf rfl _ _ _ rfl _ (crtC t.high) rfl rfl _ _ L11.crtInfo rfl (L11.qal _) ?_))
  have hb1 := qae w0 (.cells (crtC t.high) 29)
  have hx1 : Blk (w0.alloc (.cells (crtC t.high) 29)) w0.heap.size 29 (crtC t.high) := Blk.new _ _ _
  have hk1 := k0.below hb1 k0.lt
  have hRd1 := hRd.below hb1
  have hw1 := nxt hb0 hb1
  have hlt0 := k0.lt
  have hne : w.heap.size < w0.heap.size := k0.lt
  have hadG : ad.block < w0.heap.size := Nat.lt_of_lt_of_le hadl hb0.size
  obtain ⟨G, hG⟩ := nm (w0.heap.size)
  rw [<- hG] at hx1 hne hadG
  rw [<- hG]
  refine qab (fun w1 hw1' => ?_)
  rw [<- hw1'] at hx1 hk1 hRd1 hw1
  clear hw1' hG hb1 k0 hb0 hRd hcs1 hlt0
  have hA : HiAt w G ad (t :: ts) (highV (t :: ts.take 0)) w1 := ⟨hk1, hx1, hRd1, hw1⟩
  have HA := hid hA
  clear hA hk1 hx1 hRd1 hw1
  by_cases h1 : cp = 1
  ·have hn0 : n = 0 := by omega
   subst h1 hn0
   have hts : ts = [] := List.eq_nil_of_length_eq_zero HN.out.symm
   subst hts
   go_wp2
   go_loopw [17] (fun i wr => i = .int .i64 0 /\ HiAt w G ad [t] t.high wr) (fun i _ => 0)
   case atStart => exact ⟨rfl, HA.out⟩
   case round =>
    obtain ⟨rfl, hP⟩ := hrel
    have hz := hP.bz
    have hg := hP.bg
    go_wp2_with (first
     | (refine qaa rfl _ _ rfl G rfl _ _ _ _ hg Tryz.underlying29 rfl L11.crtInfo ?_)
     | (refine wpList_store_row rfl _ _ _ rfl w.heap.size (crtC t.high) rfl rfl _ _ hz L11.crtInfo rfl (L11.qal _) ?_))
    (try simp only [Exit.inBlock, Exit.then])
    refine bodyPost_ret (v := .agg (crtC t.high)) (qan rfl _ _ w.heap.size rfl _ _ _ _ (qac hz) Tryz.underlying29 rfl L11.crtInfo) rfl ?_
    exact ⟨rfl, below_setRow hP.bw (Nat.le_refl _)⟩
  ·go_upto_region 5 with fail
   go_loopw [17] (fun i wr => ∃ k : Nat, i = .int .i64 k /\ k <= n /\ HiAt w G ad (t :: ts) (highV (t :: ts.take k)) wr) (fun i _ => n - (RowKit.intOf i).toNat)
   case atStart => exact ⟨0, rfl, Nat.zero_le _, HA.out⟩
   case round =>
    obtain ⟨k, rfl, hk, hP⟩ := hrel
    clear HA
    by_cases hlt : k < n
    ·have hkL : k < ts.length := by have := HN.out; omega
     obtain ⟨ad', e', _, hcs⟩ := hP.rd (k + 1) (by simp; omega)
     injection e' with e'
     subst e'
     have hnx := qhs t ts k hkL
     rw [List.getElem_cons_succ] at hcs
     obtain ⟨x, hx⟩ := nm (ts[k])
     rw [<- hx] at hcs hnx
     have ead : ad.add ((k + 1) * 10) = ⟨ad.block, ad.off + 10 + k * 10, none⟩ := by
      have e1 : (k + 1) * 10 = k * 10 + 9 + 1 := by omega
      have e2 : ad.off + (k * 10 + 9 + 1) = ad.off + 10 + k * 10 := by omega
      rw [e1]
      unfold Addr.add
      rw [if_neg (by omega), e2]
     have hcs1 : ∀ j u, (tmL x)[j]? = some u -> wr.cell? ((⟨ad.block, ad.off + 10 + k * 10, none⟩ : Addr).add j) = some u := by rw [<- ead]; exact hcs
     obtain ⟨cc, hcc⟩ := nm (highV (t :: ts.take k))
     rw [<- hcc] at hP hnx
     have HX := hid hnx
     clear hcs hx hnx hcc ead
     go_upto_region 7 with (first
      | (refine qai rfl _ _ rfl ⟨ad.block, ad.off + 10 + k * 10, none⟩ rfl (tmL x) _ hcs1 Tryz.underlying31 rfl tmInfo ?_)
      | (refine qaf rfl _ _ _ rfl wr (tmC x) rfl rfl _ _ tmInfo rfl (qbX _) ?_))
     have hb1 := qae wr (.cells (tmC x) 31)
     have hx1 := qc0 wr 31 x
     have hP1 := hP.below hb1
     obtain ⟨H, hH⟩ := nm (wr.heap.size)
     rw [<- hH] at hx1
     rw [<- hH]
     refine qab (fun w2 hw2' => ?_)
     rw [<- hw2'] at hx1 hP1
     clear hw2' hH hb1 hP hcs1
     have hc2 := qbj hx1 (qfc x)
     have hg := hP1.bg
     have hM := c_max cc x.high w2
     have HR := hid (fun (W : World) (hb : Below w2.heap.size w2 W) (c' : Crt) => (hP1.below hb).row hne hadG c')
     have HG := hid (fun (W : World) (hb : Below w2.heap.size w2 W) => hg.below hb hg.lt)
     clear hP1 hx1
     go_wp2_with (first
      | (refine qaa rfl _ _ rfl G rfl _ _ _ _ hg Tryz.underlying29 rfl L11.crtInfo ?_)
      | (refine qai rfl _ _ rfl ⟨H, 2, none⟩ rfl (crtL x.high) _ hc2 Tryz.underlying29 rfl L11.crtInfo ?_)
      | (go_at_call 78; refine hM.mono ?_; unfold gives; rintro e w3 ⟨rfl, hb3⟩)
      | (refine wpList_store_row rfl _ _ _ rfl G (crtC (maxV cc x.high)) rfl rfl _ _ (HG.out _ hb3) L11.crtInfo rfl (L11.qal _) ?_))
     go_roundw
     case rel => exact ⟨k + 1, by go_num, by omega, by rw [HX.out]; exact HR.out _ hb3 _⟩
     case measure => simp [RowKit.intOf]; omega
    ·obtain rfl : k = n := by omega
     have hfull : ts.take k = ts := List.take_of_length_le (by have := HN.out; omega)
     rw [hfull] at hP
     obtain ⟨cc, hcc⟩ := nm (highV (t :: ts))
     rw [<- hcc] at hP
     have HCC := hid hcc
     clear hcc
     have hz := hP.bz
     have hg := hP.bg
     go_wp2_with (first
      | (refine qaa rfl _ _ rfl G rfl _ _ _ _ hg Tryz.underlying29 rfl L11.crtInfo ?_)
      | (refine wpList_store_row rfl _ _ _ rfl w.heap.size (crtC cc) rfl rfl _ _ hz L11.crtInfo rfl (L11.qal _) ?_))
     (try simp only [Exit.inBlock, Exit.then])
     refine bodyPost_ret (v := .agg (crtC cc)) (qan rfl _ _ w.heap.size rfl _ _ _ _ (qac hz) Tryz.underlying29 rfl L11.crtInfo) rfl ?_
     exact ⟨by rw [HCC.out], below_setRow hP.bw (Nat.le_refl _)⟩
end Go.Proofs.YtomaaidhmccngaaGreatDoor
namespace Go.Proofs.YtomaaidhmccngaaGreatDoor
open Go.RowKit Go.Maps Go.Lib
open L3 (Blk Reads)
open L6 (Turn In)
open L11 (Crt zeroC crtL crtC endV mayV stmV stmC Stm cmpV qaj)
open L4 (more leadV hasV)
open L7 (inN)
structure AlAt (w : World) (t : Array Value) (b : Blo) (P T : Value) (W : World) : Prop where
 bt : Blk W w.heap.size 106 t
 bb : Blk W (w.heap.size + 1) 57 (bloC b P T)
 bw : Below w.heap.size w W
theorem AlAt.drew {w : World} {t : Array Value} {b : Blo} {P T : Value} {W : World} (h : AlAt w t b P T W) : AlAt w t b P T W.drew := ⟨h.bt, h.bb, h.bw.drew⟩
theorem qjI (pb pg pc : Option Addr) (R : Regs) (b : Blo) (P T : Value) (w : World) :
 Calls Tryz.prog 90 #[.agg (triA pb pg pc R.f), .agg (bloC b P T)] w (gives (.int .i64 (allowE R b)) w) := by
 have Z0 := hid (qaO w 106 57 (triA pb pg pc R.f) (bloC b P T))
 obtain ⟨full, hfull⟩ : ∃ n : Nat, n = 2 ^ (more 3 R.f).toNat - 1 := ⟨_, rfl⟩
 have hF := fun W => L4.qdl R.f W
 rw [<- hfull] at hF
 have hf32 : full < 4294967296 := by
  obtain ⟨m, hm, h10⟩ := L4.qbv R.f
  rw [hfull, hm]
  have := L4.qbM (k := ((m : Int)).toNat) (by omega)
  omega
 have hH := fun W => L4.qd3 full b.author W hf32
 have hin : hasV full b.author = inN R.f b.author := by rw [hfull]; exact L7.qdJ _ _
 rw [hin] at hH
 have hL := fun W => L4.qfR R.f b.round W
 have HF := hid (And.intro hF (And.intro hH hL))
 have hX : allowE R b = if inN R.f b.author = true /\ (b.height = 0 -> b.author = leadV R.f b.round) then 0 else 40 := rfl
 obtain ⟨v, hv⟩ := nm (allowE R b)
 rw [<- hv] at hX ⊢
 obtain ⟨u, hu⟩ := nm (inN R.f b.author)
 rw [<- hu] at hX HF
 obtain ⟨le, hle⟩ := nm (leadV R.f b.round)
 rw [<- hle] at hX HF
 have HX := hid hX
 clear hF hH hL hin hX hv hu hle hf32 hfull
 go_enter Tryz.func90, Tryz.ntmps90
 go_upto_region 1 with fail
 refine qab (fun w0 hw0 => ?_)
 have hS : AlAt w (triA pb pg pc R.f) b P T w0.drew := by rw [hw0]; exact AlAt.drew ⟨Z0.out.1, Z0.out.2.1, Z0.out.2.2⟩
 clear hw0 Z0
 have ne : Nonempty (qad (AlAt w (triA pb pg pc R.f) b P T)) := ⟨⟨_, hS⟩⟩
 have d0 : ∀ y : qad (AlAt w (triA pb pg pc R.f) b P T), y.w.cell? ⟨w.heap.size, 3, none⟩ = some (.int .i64 R.f) := fun y => y.h.bt.cell 3
 have d1 : ∀ y : qad (AlAt w (triA pb pg pc R.f) b P T), y.w.cell? ⟨w.heap.size + 1, 1, none⟩ = some (.int .i64 b.round) := fun y => y.h.bb.cell 1
 have d2 : ∀ y : qad (AlAt w (triA pb pg pc R.f) b P T), y.w.cell? ⟨w.heap.size + 1, 2, none⟩ = some (.int .i64 b.height) := fun y => y.h.bb.cell 2
 have d3 : ∀ y : qad (AlAt w (triA pb pg pc R.f) b P T), y.w.cell? ⟨w.heap.size + 1, 3, none⟩ = some (.int .i64 b.author) := fun y => y.h.bb.cell 3
 refine qat (AlAt w (triA pb pg pc R.f) b P T) (by kernel_rfl) (by kernel_rfl) hS ?_
 clear hS
 (try simp only [Act.put])
 iterate 2 go_big_quiet_step (fail)
 refine qaj rfl 117 _ _ rfl Tryz.call117 [.int .i64 R.f] rfl (v := .int .u32 full) (fun y => (HF.out.1 y.w).mono fun e w' ⟨he, hb⟩ => ⟨he, hb ▸ y.h⟩) ?_
 conv => arg 6; simp only [Act.put, sA, sB, sC]
 iterate 2 go_big_quiet_step (fail)
 refine qaj rfl 104 _ _ rfl Tryz.call104 [.int .u32 full, .int .i64 b.author] rfl (v := .bool u) (fun y => (HF.out.2.1 y.w).mono fun e w' ⟨he, hb⟩ => ⟨he, hb ▸ y.h⟩) ?_
 conv => arg 6; simp only [Act.put, sA, sB, sC]
 cases u with
 | false =>
   have E := hid (show v = 40 by rw [HX.out]; simp)
   clear HX HF
   repeat go_big_quiet_step (fail)
   refine wpQuiet_nil ?_
   intro z
   obtain ⟨W, hW⟩ := z
   dsimp only
   clear ne d0 d1 d2 d3
   go_wp2
   go_ret
   exact ⟨by rw [E.out]; rfl, hW.bw⟩
 | true =>
   by_cases h0 : b.height = 0
   case neg =>
    have E := hid (show v = 0 by rw [HX.out]; simp [h0])
    have q0 : (b.height == 0) = false := by simpa using h0
    clear HX HF h0
    repeat go_big_quiet_step (fail)
    refine wpQuiet_nil ?_
    intro z
    obtain ⟨W, hW⟩ := z
    dsimp only
    clear ne d0 d1 d2 d3
    go_wp2
    go_ret
    exact ⟨by rw [E.out]; rfl, hW.bw⟩
   have d2' : ∀ y : qad (AlAt w (triA pb pg pc R.f) b P T), y.w.cell? ⟨w.heap.size + 1, 2, none⟩ = some (.int .i64 0) := fun y => by rw [d2 y, h0]
   clear d2
   repeat (first
    | (refine qaj rfl 145 _ _ rfl Tryz.call145 [.int .i64 R.f, .int .i64 b.round] rfl (v := .int .i64 le) (fun y => (HF.out.2.2 y.w).mono fun e w' ⟨he, hb⟩ => ⟨he, hb ▸ y.h⟩) ?_
       conv => arg 6; simp only [Act.put, sA, sB, sC])
    | go_big_quiet_step (fail))
   by_cases h1 : b.author = le
   ·have E := hid (show v = 0 by rw [HX.out]; simp [h1])
    rw [h1]
    clear HX HF h0 h1
    refine wpQuiet_nil ?_
    intro z
    obtain ⟨W, hW⟩ := z
    dsimp only
    clear ne d0 d1 d2' d3
    go_wp2
    go_ret
    exact ⟨by rw [E.out]; rfl, hW.bw⟩
   ·have E := hid (show v = 40 by rw [HX.out]; simp [h0, h1])
    have q1 : (b.author != le) = true := by simpa using h1
    clear HX HF h0 h1
    refine wpQuiet_nil ?_
    intro z
    obtain ⟨W, hW⟩ := z
    dsimp only
    clear ne d0 d1 d2' d3
    go_wp2
    go_ret
    exact ⟨by rw [E.out]; rfl, hW.bw⟩
end Go.Proofs.YtomaaidhmccngaaGreatDoor
namespace Go.Proofs.YtomaaidhmccngaaGreatDoor
open Go.RowKit Go.Maps Go.Lib
open L3 (Blk Reads)
open L6 (Turn In)
open L11 (Crt zeroC crtL crtC endV mayV stmV stmC Stm cmpV qaj)
open L4 (more leadV hasV)
open L7 (inN shrC)
structure PvAt (w : World) (b : Blo) (A : Option Addr) (c : Nat) (T : Value) (W0 W : World) : Prop where
 bb : Blk W (w.heap.size + 1) 57 (bloC b (.slice A b.proof.length c) T)
 rd : Rd tmL 10 W A b.proof
 bw : Below W0.heap.size W0 W
theorem PvAt.below {w : World} {b : Blo} {A : Option Addr} {c : Nat} {T : Value} {W0 W W' : World} (h : PvAt w b A c T W0 W) (hb : Below W.heap.size W W') : PvAt w b A c T W0 W' := ⟨h.bb.below hb h.bb.lt, h.rd.below hb, nxt h.bw hb⟩
theorem PvAt.drew {w : World} {b : Blo} {A : Option Addr} {c : Nat} {T : Value} {W0 W : World} (h : PvAt w b A c T W0 W) : PvAt w b A c T W0 W.drew := ⟨h.bb, h.rd.below (Below.refl _ _).drew, h.bw.drew⟩
def provN (R : Regs) (N : List Int) (b : Blo) : List Int := if b.height ≠ 1 then N else proN R N b.view b.proof
theorem qkz {U : Nat -> Prop} {b g c : Nat} {R : Regs} {N : List Int} {B : Nat} (x : Blo) (A : Option Addr) (cp : Nat) (T : Value) (w : World) (h : Trio U b g c R N B w) (hw : R.wf) (hB : B + x.proof.length <= 1000000) (hp : Rd tmL 10 w A x.proof) (hwf : ∀ t ∈ x.proof, t.wf) (hcp : x.proof.length <= cp) (hT : TT U w) (ho : x.proof.length ≠ 0 -> Off U A) :
 Calls Tryz.prog 95 #[.agg (triA (some ⟨b, 0, none⟩) (some ⟨g, 0, none⟩) (some ⟨c, 0, none⟩) R.f), .agg (bloC x (.slice A x.proof.length cp) T)] w fun e W' =>
  ∃ v, e = .returned (.int .i64 v) /\ v = provE R x /\ Rch w U b g c R (provN R N x) (B + x.proof.length) W' := by
 have Z0 := hid (qaO w 106 57 (triA (some ⟨b, 0, none⟩) (some ⟨g, 0, none⟩) (some ⟨c, 0, none⟩) R.f) (bloC x (.slice A x.proof.length cp) T))
 have HI := hid (fun k (hk : w.heap.size <= k) => (fun hU => by have := h.inU k hU; omega : ¬ U k))
 have HP := hid (fun W (hb : Below w.heap.size w W) => qmh W x.view A cp x.proof (h.below hb) hw hB (hp.below hb) hwf (hT.below hb) ho)
 have HS := hid (fun W (hb : Below w.heap.size w W) => ((Rch.start h).below hb).le (Nat.le_add_right B x.proof.length))
 have HR := hid (fun W (hb : Below w.heap.size w W) => hp.below hb)
 have HG := hid (fun W (hr : Rd tmL 10 W A x.proof) => qfd A cp x.proof W hr (by omega) hcp)
 have HO := hid ho
 have hX : provE R x = if x.height ≠ 1 then 0 else if proE R x.view x.proof ≠ 0 then proE R x.view x.proof else if cmpV x.par (highV x.proof) < 0 then 212 else 0 := rfl
 have hY : provN R N x = if x.height ≠ 1 then N else proN R N x.view x.proof := rfl
 obtain ⟨r, hr⟩ := nm (provE R x)
 obtain ⟨M, hM⟩ := nm (provN R N x)
 rw [<- hr] at hX ⊢
 rw [<- hM] at hY ⊢
 have HX := hid (And.intro hX hY)
 clear h hw hB hp hwf hcp hT ho hX hY hr hM
 go_enter Tryz.func95, Tryz.ntmps95
 go_upto_region 1 with fail
 refine qab (fun w0 hw0 => ?_)
 have hA : Blk w0 w.heap.size 106 (triA (some ⟨b, 0, none⟩) (some ⟨g, 0, none⟩) (some ⟨c, 0, none⟩) R.f) /\ Blk w0 (w.heap.size + 1) 57 (bloC x (.slice A x.proof.length cp) T) /\ Below w.heap.size w w0 := by rw [hw0]; exact Z0.out
 clear hw0 Z0
 obtain ⟨k0, k1, hb0⟩ := hA
 have c2 : w0.cell? ⟨w.heap.size + 1, 2, none⟩ = some (.int .i64 x.height) := k1.cell 2
 by_cases h1 : x.height = 1
 case neg =>
  have E := hid (show r = 0 /\ M = N by have := HX.out; rw [if_pos h1, if_pos h1] at this; exact this)
  have q1 : (x.height != 1) = true := by simpa using h1
  have hfin := HS.out w0 hb0
  clear HX h1 k0 k1 HP HS HR HG HO hb0
  go_wp2
  go_ret
  exact ⟨0, rfl, E.out.1.symm, by rw [E.out.2]; exact hfin⟩
 have hX : r = (if proE R x.view x.proof ≠ 0 then proE R x.view x.proof else if cmpV x.par (highV x.proof) < 0 then 212 else 0) /\ M = proN R N x.view x.proof := by
  obtain ⟨g1, g2⟩ := HX.out
  rw [if_neg (by simpa using h1)] at g1 g2
  exact ⟨g1, g2⟩
 have HX := hid hX
 rw [h1] at c2
 clear hX
 have c0 : w0.cell? ⟨w.heap.size + 1, 0, none⟩ = some (.int .i64 x.view) := k1.cell 0
 obtain ⟨n, hn⟩ := nm (x.proof.length)
 have c12 : w0.cell? ⟨w.heap.size + 1, 12, none⟩ = some (.slice A n cp) := by rw [hn]; exact k1.cell 12
 have hC := HP.out w0 hb0
 have hrd0 := HR.out w0 hb0
 have HN := hid hn
 rw [<- hn] at hC HG ⊢
 have HC := hid hC
 have HRD := hid hrd0
 have hlc := qdK k0
 have HK1 := hid (fun (W' : World) (ht : Turn U w0 W') => ht.blk k1 (HI.out _ (Nat.le_succ _)))
 have HB0 := hid hb0
 clear hC hrd0 hn k0 k1 HP HS HR hb0 h1
 go_upto_region 4 with (first
  | (refine qai rfl _ _ rfl ⟨w.heap.size, 0, none⟩ rfl (lawA (some ⟨b, 0, none⟩) (some ⟨g, 0, none⟩) (some ⟨c, 0, none⟩)).toList _ hlc Tryz.underlying39 rfl lawInfo ?_)
  | (go_at_call 15; refine HC.out.mono ?_; rintro e w2 ⟨q, rfl, hq⟩))
 obtain ⟨hq1, hq2⟩ : q = proE R x.view x.proof /\ Rch w0 U b g c R (proN R N x.view x.proof) (B + x.proof.length) w2 := hq
 have hfin : Rch w U b g c R (proN R N x.view x.proof) (B + x.proof.length) w2 := Rch.then (L6.Turn.of_keep HB0.out) (fun _ => .inl) hq2
 have hk2 := HK1.out w2 hq2.tn
 have hr2 := HRD.out.kept2 hq2.tn HO.out
 clear hlc c0 c2 c12 HC HK1 HRD hq2 HB0
 by_cases h0 : q = 0
 case neg =>
  have E := hid (show q = r /\ M = proN R N x.view x.proof by have := HX.out; rw [<- hq1, if_pos h0] at this; exact ⟨this.1.symm, this.2⟩)
  have q1 : (q != 0) = true := by simpa using h0
  clear HX h0 hq1 hk2 hr2 HG
  go_wp2
  go_ret
  exact ⟨q, rfl, E.out.1, by rw [E.out.2]; exact hfin⟩
 have hX := HX.out
 rw [<- hq1, if_neg (by simpa using h0)] at hX
 have HX := hid hX
 subst h0
 clear hX hq1
 have HFin := hid (fun (W : World) (hb : Below w2.heap.size w2 W) => hfin.below hb)
 have hS : PvAt w x A cp T w2 w2 := ⟨hk2, hr2, Below.refl _ _⟩
 obtain ⟨hi, hhi⟩ := nm (highV x.proof)
 rw [<- hhi] at HG HX
 have HCm := hid (fun W => L11.qlp x.par hi W)
 obtain ⟨k, hk⟩ := nm (cmpV x.par hi)
 rw [<- hk] at HCm HX
 clear hk2 hr2 hfin hhi hk
 go_upto_region 6 with fail
 have hSd := hS.drew
 have ne : Nonempty (qad (PvAt w x A cp T w2)) := ⟨⟨_, hSd⟩⟩
 have d12 : ∀ y : qad (PvAt w x A cp T w2), y.w.cell? ⟨w.heap.size + 1, 12, none⟩ = some (.slice A n cp) := fun y => by rw [HN.out]; exact y.h.bb.cell 12
 refine qat (PvAt w x A cp T w2) (by kernel_rfl) (by kernel_rfl) hSd ?_
 clear hS hSd
 (try simp only [Act.put])
 repeat (first
  | (refine qaI rfl _ _ rfl ⟨w.heap.size + 1, 4, none⟩ rfl (crtL x.par) _ (fun y => qbj y.h.bb (qeB x _ _)) Tryz.underlying29 rfl L11.crtInfo ?_
     conv => arg 6; simp only [Act.put, sA, sB, sC])
  | (refine qaj rfl 17 _ _ rfl Tryz.call17 [.slice A n cp] rfl (v := .agg (crtC hi)) (fun y => (HG.out y.w y.h.rd).mono fun e w' ⟨he, hb⟩ => ⟨he, y.h.below hb⟩) ?_
     conv => arg 6; simp only [Act.put, sA, sB, sC])
  | (refine qaj rfl 130 _ _ rfl Tryz.call130 [.agg (crtC x.par), .agg (crtC hi)] rfl (v := .int .i64 k) (fun y => (HCm.out y.w).mono fun e w' ⟨he, hb⟩ => ⟨he, y.h.below hb⟩) ?_
     conv => arg 6; simp only [Act.put, sA, sB, sC])
  | go_big_quiet_step (fail))
 refine wpQuiet_nil ?_
 intro z
 obtain ⟨W, hW⟩ := z
 dsimp only
 have hf2 := HFin.out W hW.bw
 clear ne d12 HFin hW HG HCm
 by_cases h2 : k < 0
 ·have E := hid (show r = 212 /\ M = proN R N x.view x.proof by have := HX.out; rw [if_pos h2] at this; exact this)
  clear HX
  go_wp2
  go_ret
  exact ⟨212, rfl, E.out.1.symm, by rw [E.out.2]; exact hf2⟩
 ·have E := hid (show r = 0 /\ M = proN R N x.view x.proof by have := HX.out; rw [if_neg h2] at this; exact this)
  clear HX
  go_wp2
  go_ret
  exact ⟨0, rfl, E.out.1.symm, by rw [E.out.2]; exact hf2⟩
end Go.Proofs.YtomaaidhmccngaaGreatDoor
namespace Go.Proofs.YtomaaidhmccngaaGreatDoor
open Go.RowKit Go.Maps Go.Lib
open L3 (Blk Reads)
open L6 (Turn In)
open L11 (Crt zeroC crtL crtC endV mayV stmV stmC Stm cmpV qaj)
open L7 (shrC)
theorem ent_b1 : Enters 89 := enters_of Tryz.func89 (by kernel_rfl) rfl
theorem ent_b2 : Enters 91 := enters_of Tryz.func91 (by kernel_rfl) rfl
theorem ent_b3 : Enters 93 := enters_of Tryz.func93 (by kernel_rfl) rfl
theorem ent_b4 : Enters 94 := enters_of Tryz.func94 (by kernel_rfl) rfl
theorem qmD (a b c d e : Fnc) (w : World) : (Instr.buildSlice 163 5 #[(0, fncV a), (1, fncV b), (2, fncV c), (3, fncV d), (4, fncV e)]).run Tryz.prog w = .ok (.slice (some ⟨w.heap.size, 0, none⟩) 5 5) (w.alloc (.cells #[fncV a, fncV b, fncV c, fncV d, fncV e] 109)) := by kernel_rfl
structure BoxK (gt gb gn : Nat) (t : Array Value) (x : Blo) (P T : Value) (n : Int) (W : World) : Prop where
 bt : Blk W gt 106 t
 bb : Blk W gb 57 (bloC x P T)
 bn : Blk W gn 3 #[.int .i64 n]
section
variable {gt gb gn : Nat} {t : Array Value} {x : Blo} {P T : Value} {n : Int} {W W' : World}
theorem BoxK.below (h : BoxK gt gb gn t x P T n W) (hb : Below W.heap.size W W') : BoxK gt gb gn t x P T n W' := ⟨h.bt.below hb h.bt.lt, h.bb.below hb h.bb.lt, h.bn.below hb h.bn.lt⟩
theorem BoxK.turn {U : Nat -> Prop} (h : BoxK gt gb gn t x P T n W) (ht : Turn U W W') (h1 : ¬ U gt) (h2 : ¬ U gb) (h3 : ¬ U gn) : BoxK gt gb gn t x P T n W' := ⟨ht.blk h.bt h1, ht.blk h.bb h2, ht.blk h.bn h3⟩
end
theorem b1_any {gt gb gn : Nat} {t : Array Value} {x : Blo} {P T : Value} {n : Int} (e1 : Int) (W : World) (hts : (Tryz.prog.info? 106).map (·.size) = some t.size) (hb : BoxK gt gb gn t x P T n W) (h1 : Calls Tryz.prog 90 #[.agg t, .agg (bloC x P T)] W (gives (.int .i64 e1) W)) :
 Calls Tryz.prog 89 #[.pointer (some ⟨gt, 0, none⟩), .pointer (some ⟨gb, 0, none⟩)] W (gives (.int .i64 e1) W) := by
 have k0 := hb.bt
 have k1 := hb.bb
 clear hb
 go_enter Tryz.func89, Tryz.ntmps89
 go_wp2_with (first
  | (refine qaa rfl _ _ rfl gt rfl _ _ _ _ k0 Tryz.underlying106 rfl hts ?_)
  | (refine qaa rfl _ _ rfl gb rfl _ _ _ _ k1 Tryz.underlying57 rfl bloInfo ?_)
  | (go_at_call 90; refine h1.mono ?_; unfold gives; rintro e w1 ⟨rfl, hb1⟩))
 go_ret
 exact ⟨rfl, hb1⟩
theorem b4_any {gt gb gn : Nat} {t : Array Value} {x : Blo} {P T : Value} {n : Int} (E : Int -> World -> Prop) (W : World) (hts : (Tryz.prog.info? 106).map (·.size) = some t.size) (hb : BoxK gt gb gn t x P T n W)
 (h4 : Calls Tryz.prog 95 #[.agg t, .agg (bloC x P T)] W (fun e W' => ∃ v, e = .returned (.int .i64 v) /\ E v W')) :
 Calls Tryz.prog 94 #[.pointer (some ⟨gt, 0, none⟩), .pointer (some ⟨gb, 0, none⟩)] W (fun e W' => ∃ v, e = .returned (.int .i64 v) /\ E v W') := by
 have k0 := hb.bt
 have k1 := hb.bb
 clear hb
 go_enter Tryz.func94, Tryz.ntmps94
 go_wp2_with (first
  | (refine qaa rfl _ _ rfl gt rfl _ _ _ _ k0 Tryz.underlying106 rfl hts ?_)
  | (refine qaa rfl _ _ rfl gb rfl _ _ _ _ k1 Tryz.underlying57 rfl bloInfo ?_)
  | (go_at_call 95; refine h4.mono ?_; rintro e w1 ⟨v, rfl, hE⟩))
 go_ret
 exact ⟨v, rfl, hE⟩
theorem b3_any {gt gb gn : Nat} {pb pg pc : Option Addr} {f : Int} {x : Blo} {P T : Value} {n : Int} (E : Int -> World -> Prop) (W : World) (hb : BoxK gt gb gn (triA pb pg pc f) x P T n W)
 (h3 : Calls Tryz.prog 11 #[.agg (lawA pb pg pc), .agg (crtC x.par)] W (fun e W' => ∃ v, e = .returned (.int .i64 v) /\ E v W')) :
 Calls Tryz.prog 93 #[.pointer (some ⟨gt, 0, none⟩), .pointer (some ⟨gb, 0, none⟩)] W (fun e W' => ∃ v, e = .returned (.int .i64 v) /\ E v W') := by
 have hlc := qdK hb.bt
 have c4 := qbj hb.bb (qeB x P T)
 clear hb
 go_enter Tryz.func93, Tryz.ntmps93
 go_wp2_with (first
  | (refine qai rfl _ _ rfl ⟨gt, 0, none⟩ rfl (lawA pb pg pc).toList _ hlc Tryz.underlying39 rfl lawInfo ?_)
  | (refine qai rfl _ _ rfl ⟨gb, 4, none⟩ rfl (crtL x.par) _ c4 Tryz.underlying29 rfl L11.crtInfo ?_)
  | (go_at_call 11; refine h3.mono ?_; rintro e w1 ⟨v, rfl, hE⟩))
 go_ret
 exact ⟨v, rfl, hE⟩
structure B2At (w W0 : World) (gt gb gn : Nat) (t : Array Value) (x : Blo) (P T : Value) (n : Int) (W : World) : Prop where
 bx : BoxK gt gb gn t x P T n W
 bw : Below w.heap.size w W
 b0 : Below W0.heap.size W0 W
theorem B2At.below {w W0 : World} {gt gb gn : Nat} {t : Array Value} {x : Blo} {P T : Value} {n : Int} {W W' : World} (h : B2At w W0 gt gb gn t x P T n W) (hb : Below W.heap.size W W') : B2At w W0 gt gb gn t x P T n W' := ⟨h.bx.below hb, nxt h.bw hb, nxt h.b0 hb⟩
theorem b2_any {gt gb gn : Nat} {pb pg pc : Option Addr} {f : Int} {x : Blo} {A : Option Addr} {k c : Nat} {D : Option Addr} {m d : Nat} {n : Int} (w : World) (e2 : Int) (W : World) (hb : BoxK gt gb gn (triA pb pg pc f) x (.slice A k c) (.slice D m d) n W) (hw : Below w.heap.size w W)
 (h2 : ∀ W, Below w.heap.size w W -> Calls Tryz.prog 34 #[.pointer pg, .agg (shrC (shrOf x.author (stmP n x)))] W (gives (.int .i64 e2) W)) :
 Calls Tryz.prog 91 #[.pointer (some ⟨gt, 0, none⟩), .pointer (some ⟨gb, 0, none⟩), .pointer (some ⟨gn, 0, none⟩)] W (gives (.int .i64 e2) W) := by
 have hS0 : B2At w W gt gb gn (triA pb pg pc f) x (.slice A k c) (.slice D m d) n W.drew := ⟨⟨hb.bt, hb.bb, hb.bn⟩, hw.drew, (Below.refl _ _).drew⟩
 have HS := hid hS0
 have H2 := hid h2
 clear hb hw h2 hS0
 go_enter Tryz.func91, Tryz.ntmps91
 go_upto_region 1 with fail
 have hS := HS.out
 have ne : Nonempty (qad (B2At w W gt gb gn (triA pb pg pc f) x (.slice A k c) (.slice D m d) n)) := ⟨⟨_, hS⟩⟩
 have d0 : ∀ y : qad (B2At w W gt gb gn (triA pb pg pc f) x (.slice A k c) (.slice D m d) n), y.w.cell? ⟨gt, 1, none⟩ = some (.pointer pg) := fun y => y.h.bx.bt.cell 1
 have d1 : ∀ y : qad (B2At w W gt gb gn (triA pb pg pc f) x (.slice A k c) (.slice D m d) n), y.w.cell? ⟨gb, 3, none⟩ = some (.int .i64 x.author) := fun y => y.h.bx.bb.cell 3
 have d2 : ∀ y : qad (B2At w W gt gb gn (triA pb pg pc f) x (.slice A k c) (.slice D m d) n), y.w.cell? ⟨gn, 0, none⟩ = some (.int .i64 n) := fun y => y.h.bx.bn.cell 0
 refine qat (B2At w W gt gb gn (triA pb pg pc f) x (.slice A k c) (.slice D m d) n) (by kernel_rfl) (by kernel_rfl) hS ?_
 repeat (first
  | (refine qam rfl _ _ rfl gb rfl _ _ _ _ (fun y => y.h.bx.bb) Tryz.underlying57 rfl bloInfo ?_
     conv => arg 6; simp only [Act.put, sA, sB, sC])
  | (refine qaj rfl 92 _ _ rfl Tryz.call92 [.int .i64 n, .agg (bloC x (.slice A k c) (.slice D m d))] rfl (v := .agg (stmC (stmP n x))) (fun y => (qh3 n x _ _ _ _ _ _ y.w).mono fun e w' ⟨he, hb⟩ => ⟨he, y.h.below hb⟩) ?_
     conv => arg 6; simp only [Act.put, sA, sB, sC])
  | (refine qa5 rfl _ _ rfl #[(0, .int .i64 x.author), (1, .agg (stmC (stmP n x)))] rfl (v := .agg (shrC (shrOf x.author (stmP n x)))) (fun W => qel _ _ W) ?_
     conv => arg 6; simp only [Act.put, sA, sB, sC])
  | (refine qaj rfl 34 _ _ rfl Tryz.call34 [.pointer pg, .agg (shrC (shrOf x.author (stmP n x)))] rfl (v := .int .i64 e2) (fun y => (H2.out y.w y.h.bw).mono fun e w' ⟨he, hb⟩ => ⟨he, y.h.below hb⟩) ?_
     conv => arg 6; simp only [Act.put, sA, sB, sC])
  | go_big_quiet_step (fail))
 refine wpQuiet_nil ?_
 intro y
 obtain ⟨w8, hA8⟩ := y
 dsimp only
 clear ne d0 d1 d2
 go_wp2
 go_ret
 exact ⟨rfl, hA8.b0⟩
abbrev blkFs (gt gb gn : Nat) (t : Array Value) : List Fnc := [(75, #[.agg t], #[]), (89, #[], #[.pointer (some ⟨gt, 0, none⟩), .pointer (some ⟨gb, 0, none⟩)]), (91, #[], #[.pointer (some ⟨gt, 0, none⟩), .pointer (some ⟨gb, 0, none⟩), .pointer (some ⟨gn, 0, none⟩)]), (93, #[], #[.pointer (some ⟨gt, 0, none⟩), .pointer (some ⟨gb, 0, none⟩)]), (94, #[], #[.pointer (some ⟨gt, 0, none⟩), .pointer (some ⟨gb, 0, none⟩)])]
structure BlkQ (w : World) (bs gt gb gn : Nat) (t : Array Value) (x : Blo) (P T : Value) (n : Int) (U : Nat -> Prop) (b g c : Nat) (R : Regs) (N : List Int) (B : Nat) (k : Nat) (W : World) : Prop where
 bf : k <= 4 -> Blk W bs 109 ((blkFs gt gb gn t).map fncV).toArray
 bx : BoxK gt gb gn t x P T n W
 bw : k <= 3 -> Below w.heap.size w W
 h2 : 2 <= k -> allowE R x = 0
 h3 : 3 <= k -> autE R n x = 0
 h4 : 4 <= k -> certE R x.par = 0
 h5 : k = 4 -> Rch w U b g c R (certN R N x.par) (B + 1) W
 h6 : 5 <= k -> provE R x = 0 /\ ∃ N', Rch w U b g c R N' (B + 1 + x.proof.length) W
def blkP (w : World) (U : Nat -> Prop) (b g c gn : Nat) (R : Regs) (B : Nat) (n : Int) (x : Blo) (q : Int) (W : World) : Prop := q = restE R n x /\ (∃ N', Rch w U b g c R N' (B + 1 + x.proof.length) W) /\ (q = 0 -> Blk W gn 3 #[.int .i64 n])
theorem qkW {U : Nat -> Prop} {b g c : Nat} {R : Regs} {N : List Int} {B : Nat} (w : World) (gt gb gn : Nat) (x : Blo) (n : Int) (A : Option Addr) (cp : Nat) (D : Option Addr) (m d : Nat) (h : Trio U b g c R N B w) (hw : R.wf) (hB : B + 1 + x.proof.length <= 1000000) (hx : x.wf) (hn : inI n) (hp : Rd tmL 10 w A x.proof) (hcp : x.proof.length <= cp) (hT : TT U w) (ho : x.proof.length ≠ 0 -> Off U A)
 (hgt : ¬ U gt) (hgb : ¬ U gb) (hgn : ¬ U gn) (hb : BoxK gt gb gn (triA (some ⟨b, 0, none⟩) (some ⟨g, 0, none⟩) (some ⟨c, 0, none⟩) R.f) x (.slice A x.proof.length cp) (.slice D m d) n w) :
 Calls Tryz.prog 50 #[.slice (some ⟨w.heap.size, 0, none⟩) 5 5] (w.alloc (.cells ((blkFs gt gb gn (triA (some ⟨b, 0, none⟩) (some ⟨g, 0, none⟩) (some ⟨c, 0, none⟩) R.f)).map fncV).toArray 109)) (fun e W' => ∃ q, e = .returned (.int .i64 q) /\ blkP w U b g c gn R B n x q W') := by
 obtain ⟨t, ht⟩ := nm (triA (some ⟨b, 0, none⟩) (some ⟨g, 0, none⟩) (some ⟨c, 0, none⟩) R.f)
 have hts : (Tryz.prog.info? 106).map (·.size) = some t.size := by rw [ht]; exact triInfo
 rw [<- ht] at hb ⊢
 have hb0 := qae w (.cells ((blkFs gt gb gn t).map fncV).toArray 109)
 have hU : ∀ k, w.heap.size <= k -> ¬ U k := fun k hk hUk => by have := h.inU k hUk; omega
 have hquiet : ∀ V, Below w.heap.size w V -> ∃ N', Rch w U b g c R N' (B + 1 + x.proof.length) V := fun V hV => ⟨N, ((Rch.start h).below hV).le (by omega)⟩
 refine Calls.mono (qdG (blkFs gt gb gn t) w.heap.size 5 (BlkQ w w.heap.size gt gb gn t x (.slice A x.proof.length cp) (.slice D m d) n U b g c R N B) (blkP w U b g c gn R B n x) _ (by simp) (by simp) (fun k V hk h => h.bf (by have : k < 5 := hk; omega)) ?_ ?_ ?_) ?_
 ·intro f hf
  simp only [List.mem_cons, List.not_mem_nil, or_false] at hf
  rcases hf with rfl | rfl | rfl | rfl | rfl
  ·exact ent_kn
  ·exact ent_b1
  ·exact ent_b2
  ·exact ent_b3
  ·exact ent_b4
 ·intro k hk V q
  have hk5 : k < 5 := hk
  have qf := q.bf (by omega)
  have qx := q.bx
  obtain rfl | rfl | rfl | rfl | rfl : k = 0 ∨ k = 1 ∨ k = 2 ∨ k = 3 ∨ k = 4 := by omega
  ·have hwV := q.bw (by omega)
   have hkn := qjk (some ⟨b, 0, none⟩) (some ⟨c, 0, none⟩) ⟨g, 0, none⟩ R.f V
   rw [<- ht] at hkn
   refine hkn.mono ?_
   rintro e V' ⟨rfl, hb'⟩
   exact ⟨0, rfl, fun _ => ⟨fun _ => qf.below hb' qf.lt, qx.below hb', fun _ => nxt hwV hb', fun h => by omega, fun h => by omega, fun h => by omega, fun h => by omega, fun h => by omega⟩, fun h0 => absurd rfl h0⟩
  ·have hwV := q.bw (by omega)
   have hal := qjI (some ⟨b, 0, none⟩) (some ⟨g, 0, none⟩) (some ⟨c, 0, none⟩) R x (.slice A x.proof.length cp) (.slice D m d) V
   rw [<- ht] at hal
   refine (b1_any _ V hts qx hal).mono ?_
   rintro e V' ⟨rfl, hb'⟩
   refine ⟨_, rfl, fun h0 => ⟨fun _ => qf.below hb' qf.lt, qx.below hb', fun _ => nxt hwV hb', fun _ => h0, fun h => by omega, fun h => by omega, fun h => by omega, fun h => by omega⟩, fun h0 => ⟨by unfold restE; rw [if_pos h0], hquiet _ (nxt hwV hb'), fun h => absurd h h0⟩⟩
  ·have hwV := q.bw (by omega)
   have g2 := q.h2 (by omega)
   have hbx := qx
   rw [ht] at hbx
   refine (b2_any w (autE R n x) V hbx hwV (fun V' hb' => qf2 (h.below hb') hw _ ⟨hx.author, stmP_wf hx hn⟩)).mono ?_
   rintro e V' ⟨rfl, hb'⟩
   refine ⟨_, rfl, fun h0 => ⟨fun _ => qf.below hb' qf.lt, qx.below hb', fun _ => nxt hwV hb', fun _ => g2, fun _ => h0, fun h => by omega, fun h => by omega, fun h => by omega⟩, fun h0 => ⟨by unfold restE; rw [if_neg (by simpa using g2), if_pos h0], hquiet _ (nxt hwV hb'), fun h => absurd h h0⟩⟩
  ·have hwV := q.bw (by omega)
   have g2 := q.h2 (by omega)
   have g3 := q.h3 (by omega)
   have hbx := qx
   rw [ht] at hbx
   have hcert := qgo x.par V (h.below hwV) hw (by omega) hx.par (hT.below hwV).here
   refine (b3_any (fun v V' => v = certE R x.par /\ Rch V U b g c R (certN R N x.par) (B + 1) V') V hbx (hcert.mono fun e V' he => ⟨_, he.1, rfl, he.2⟩)).mono ?_
   rintro e V' ⟨_, rfl, rfl, hR⟩
   have hR2 : Rch w U b g c R (certN R N x.par) (B + 1) V' := Rch.then (L6.Turn.of_keep hwV) (fun _ => .inl) hR
   refine ⟨_, rfl, fun h0 => ⟨fun _ => hR.tn.blk qf (hU _ (Nat.le_refl _)), qx.turn hR.tn hgt hgb hgn, fun h => by omega, fun _ => g2, fun _ => g3, fun _ => h0, fun _ => hR2, fun h => by omega⟩, fun h0 => ⟨by unfold restE; rw [if_neg (by simpa using g2), if_neg (by simpa using g3), if_pos h0], ⟨_, hR2.le (by omega)⟩, fun h => absurd h h0⟩⟩
  ·have g2 := q.h2 (by omega)
   have g3 := q.h3 (by omega)
   have g4 := q.h4 (by omega)
   have hR := q.h5 rfl
   obtain ⟨Vs, hV, hVs⟩ := hR.ex
   have htn := hR.tn
   have hpv := qkz x A cp (.slice D m d) V hV hw (by omega) (hp.kept2 htn ho) hx.proof hcp (hT.next htn hVs) (fun h0 ad had hin => by
    rcases hVs _ hin with h1 | h1
    ·exact ho h0 ad had h1
    ·obtain ⟨ad', had', hl, _⟩ := hp 0 (by omega)
     rw [had] at had'
     injection had' with had'
     subst had'
     omega)
   rw [<- ht] at hpv
   refine (b4_any (fun v V' => v = provE R x /\ Rch V Vs b g c R (provN R (certN R N x.par) x) (B + 1 + x.proof.length) V') V hts qx hpv).mono ?_
   rintro e V' ⟨_, rfl, rfl, hR3⟩
   have hR4 := Rch.then htn hVs hR3
   have hns : ∀ k, k < w.heap.size -> ¬ U k -> ¬ Vs k := fun k hk hu hin => by
    rcases hVs _ hin with h1 | h1
    ·exact hu h1
    ·omega
   refine ⟨_, rfl, fun h0 => ⟨fun h => by omega, qx.turn hR3.tn (hns _ hb.bt.lt hgt) (hns _ hb.bb.lt hgb) (hns _ hb.bn.lt hgn), fun h => by omega, fun _ => g2, fun _ => g3, fun _ => g4, fun h => by omega, fun _ => ⟨h0, _, hR4⟩⟩, fun h0 => ⟨by unfold restE; rw [if_neg (by simpa using g2), if_neg (by simpa using g3), if_neg (by simpa using g4)], ⟨_, hR4⟩, fun h => absurd h h0⟩⟩
 ·exact ⟨fun _ => Blk.new _ _ _, hb.below hb0, fun _ => hb0, fun h => by omega, fun h => by omega, fun h => by omega, fun h => by omega, fun h => by omega⟩
 ·rintro e V ⟨q, rfl, hq, hp'⟩
  refine ⟨q, rfl, ?_⟩
  by_cases hv : q = 0
  ·have s := hq hv
   subst hv
   exact ⟨by unfold restE; rw [if_neg (by simpa using s.h2 (by simp)), if_neg (by simpa using s.h3 (by simp)), if_neg (by simpa using s.h4 (by simp)), (s.h6 (by simp)).1], (s.h6 (by simp)).2, fun _ => s.bx.bn⟩
  ·exact hp' hv
theorem block_no (pb pg pc : Option Addr) (x : Blo) (P T : Value) (n e : Int) (w : World) (he : e ≠ 0)
 (hN : ∀ W, Below w.heap.size w W -> Calls Tryz.prog 25 #[.agg (lawA pb pg pc), .agg (bloC x P T)] W (gives (.tuple #[.int .i64 n, .int .i64 e]) W)) :
 Calls Tryz.prog 27 #[.agg (lawA pb pg pc), .agg (bloC x P T)] w (gives (.tuple #[.int .i64 0, .int .i64 e]) w) := by
 have Z0 := hid (qaO w 39 57 (lawA pb pg pc) (bloC x P T))
 have HN := hid hN
 have h1 : (e != 0) = true := by simpa using he
 clear hN he
 go_enter Tryz.func27, Tryz.ntmps27
 go_upto_region 1 with fail
 refine qab (fun w0 hw0 => ?_)
 have hA : Blk w0 w.heap.size 39 (lawA pb pg pc) /\ Blk w0 (w.heap.size + 1) 57 (bloC x P T) /\ Below w.heap.size w w0 := by rw [hw0]; exact Z0.out
 clear hw0 Z0
 obtain ⟨k0, k1, hb0⟩ := hA
 go_wp2_with (first
  | (refine qaa rfl _ _ rfl w.heap.size rfl _ _ _ _ k0 Tryz.underlying39 rfl lawInfo ?_)
  | (refine qaa rfl _ _ rfl (w.heap.size + 1) rfl _ _ _ _ k1 Tryz.underlying57 rfl bloInfo ?_)
  | (go_at_call 25; refine (HN.out _ hb0).mono ?_; unfold gives; rintro e w1 ⟨rfl, hb1⟩))
 go_ret2
 exact ⟨rfl, (nxt hb0 hb1).alloc (nxt hb0 hb1).size _⟩
theorem blk_any {U : Nat -> Prop} {b g c : Nat} {R : Regs} {N : List Int} {B : Nat} (x : Blo) (A : Option Addr) (cp : Nat) (D : Option Addr) (d : Nat) (w : World) (h : Trio U b g c R N B w) (hw : R.wf) (hB : B + 1 + x.proof.length <= 1000000) (hx : x.wf) (hp : Rd tmL 10 w A x.proof) (ht : Rd txL 7 w D x.txs) (hcp : x.proof.length <= cp) (hT : TT U w) (ho : x.proof.length ≠ 0 -> Off U A) :
 Calls Tryz.prog 27 #[.agg (lawA (some ⟨b, 0, none⟩) (some ⟨g, 0, none⟩) (some ⟨c, 0, none⟩)), .agg (bloC x (.slice A x.proof.length cp) (.slice D x.txs.length d))] w fun e W' =>
  e = .returned (.tuple #[.int .i64 (blkE R x).1, .int .i64 (blkE R x).2]) /\ ∃ N', Rch w U b g c R N' (B + 1 + x.proof.length) W' := by
 have hN := fun W (hb : Below w.heap.size w W) => qey x (.slice A x.proof.length cp) (.slice D x.txs.length d) W (h.below hb) hx ⟨A, cp, D, d, rfl, rfl, hp.below hb, ht.below hb⟩ (hT.here.1.kept hb)
 have hE : blkE R x = if (nbrV R.K x).2 ≠ 0 then (0, (nbrV R.K x).2) else if restE R (nbrV R.K x).1 x ≠ 0 then (0, restE R (nbrV R.K x).1 x) else ((nbrV R.K x).1, 0) := rfl
 have hnI : inI (nbrV R.K x).1 := by
  have := L5.idx_le R.K (str (bytesB x))
  have := hw.kl
  unfold nbrV inI
  split
  ·dsimp only; omega
  ·split <;> dsimp only <;> omega
 obtain ⟨z, hz⟩ := nm (nbrV R.K x)
 rw [<- hz] at hN hE hnI
 obtain ⟨n, e0⟩ := z
 dsimp only at hN hE hnI
 by_cases h0 : e0 = 0
 case neg =>
  rw [if_pos h0] at hE
  rw [hE]
  refine (block_no _ _ _ x _ _ n e0 w h0 hN).mono ?_
  rintro e W' ⟨rfl, hb⟩
  exact ⟨rfl, N, ((Rch.start h).below hb).le (by omega)⟩
 subst h0
 rw [if_neg (by simp)] at hE
 have Z0 := hid (qaO w 39 57 (lawA (some ⟨b, 0, none⟩) (some ⟨g, 0, none⟩) (some ⟨c, 0, none⟩)) (bloC x (.slice A x.proof.length cp) (.slice D x.txs.length d)))
 have HT := hid (fun W (hb : Below w.heap.size w W) => qf1 (some ⟨b, 0, none⟩) (some ⟨g, 0, none⟩) (some ⟨c, 0, none⟩) R.f W (fun W' hb' => qmU (h.below (nxt hb hb'))))
 have HI := hid (fun k (hk : w.heap.size <= k) => (fun hU => by have := h.inU k hU; omega : ¬ U k))
 have HF := hid (fun gt (hgt : w.heap.size <= gt) gn (hgn : w.heap.size <= gn) W (hW : Below w.heap.size w W) hb => qkW W gt (w.heap.size + 1) gn x n A cp D x.txs.length d (h.below hW) hw hB hx hnI (hp.below hW) hcp (hT.below hW) ho (HI.out _ hgt) (HI.out _ (by omega)) (HI.out _ hgn) hb)
 have HN := hid hN
 obtain ⟨pl, hpl⟩ := nm (x.proof.length)
 obtain ⟨tl, htl⟩ := nm (x.txs.length)
 rw [<- hpl, <- htl] at Z0 HN HF
 rw [<- hpl, <- htl]
 obtain ⟨r, hr⟩ := nm (blkE R x)
 rw [<- hr] at hE ⊢
 have HE := hid hE
 have HPL := hid hpl
 have hmf := qgz
 clear hN hE hnI hz h hw hB hx hp ht hcp hT ho hpl htl hr
 go_enter Tryz.func27, Tryz.ntmps27
 go_upto_region 1 with fail
 refine qab (fun w0 hw0 => ?_)
 have hA : Blk w0 w.heap.size 39 (lawA (some ⟨b, 0, none⟩) (some ⟨g, 0, none⟩) (some ⟨c, 0, none⟩)) /\ Blk w0 (w.heap.size + 1) 57 (bloC x (.slice A pl cp) (.slice D tl d)) /\ Below w.heap.size w w0 := by rw [hw0]; exact Z0.out
 clear hw0 Z0
 obtain ⟨k0, k1, hb0⟩ := hA
 go_upto_region 2 with (first
  | (refine qaa rfl _ _ rfl w.heap.size rfl _ _ _ _ k0 Tryz.underlying39 rfl lawInfo ?_)
  | (refine qaa rfl _ _ rfl (w.heap.size + 1) rfl _ _ _ _ k1 Tryz.underlying57 rfl bloInfo ?_)
  | (go_at_call 25; refine (HN.out _ hb0).mono ?_; unfold gives; rintro e w1 ⟨rfl, hb1⟩))
 have hbn := qae w1 (.cells #[.int .i64 n] 3)
 have hxn : Blk (w1.alloc (.cells #[.int .i64 n] 3)) w1.heap.size 3 #[.int .i64 n] := Blk.new _ _ _
 have k02 := (k0.below hb1 k0.lt).below hbn (k0.below hb1 k0.lt).lt
 have k12 := (k1.below hb1 k1.lt).below hbn (k1.below hb1 k1.lt).lt
 have hw2 := nxt (nxt hb0 hb1) hbn
 have hgn : w.heap.size <= w1.heap.size := (nxt hb0 hb1).size
 obtain ⟨gn, hGN⟩ := nm (w1.heap.size)
 rw [<- hGN] at hxn hgn
 rw [<- hGN]
 refine qab (fun w2 hw2' => ?_)
 rw [<- hw2'] at hxn k02 k12 hw2
 clear hw2' hGN hbn k0 k1 hb0 hb1 HN
 go_upto_region 5 with (first
  | (refine qaa rfl _ _ rfl w.heap.size rfl _ _ _ _ k02 Tryz.underlying39 rfl lawInfo ?_)
  | (go_at_call 49; refine (HT.out _ hw2).mono ?_; unfold gives; rintro e w3 ⟨rfl, hb3⟩)
  | (refine qaf rfl _ _ _ rfl _ (triA (some ⟨b, 0, none⟩) (some ⟨g, 0, none⟩) (some ⟨c, 0, none⟩) R.f) rfl rfl _ _ triInfo rfl (qef _ _ _ _) ?_))
 have hb4 := qae w3 (.cells (triA (some ⟨b, 0, none⟩) (some ⟨g, 0, none⟩) (some ⟨c, 0, none⟩) R.f) 106)
 have hx4 : Blk (w3.alloc (.cells (triA (some ⟨b, 0, none⟩) (some ⟨g, 0, none⟩) (some ⟨c, 0, none⟩) R.f) 106)) w3.heap.size 106 (triA (some ⟨b, 0, none⟩) (some ⟨g, 0, none⟩) (some ⟨c, 0, none⟩) R.f) := Blk.new _ _ _
 have k13 := (k12.below hb3 k12.lt).below hb4 (k12.below hb3 k12.lt).lt
 have kn3 := (hxn.below hb3 hxn.lt).below hb4 (hxn.below hb3 hxn.lt).lt
 have hw4 := nxt (nxt hw2 hb3) hb4
 have hgt : w.heap.size <= w3.heap.size := (nxt hw2 hb3).size
 obtain ⟨G, hG⟩ := nm (w3.heap.size)
 rw [<- hG] at hx4 hgt
 rw [<- hG]
 refine qab (fun w4 hw4' => ?_)
 rw [<- hw4'] at hx4 k13 kn3 hw4
 clear hw4' hG hb4 hb3 k02 k12 hxn hw2 HT
 have hC := HF.out G hgt gn hgn w4 hw4 ⟨hx4, k13, kn3⟩
 have HC := hid hC
 clear hC HF hgt k13
 go_upto_region 6 with (first
  | (refine qaa rfl _ _ rfl G rfl _ _ _ _ hx4 Tryz.underlying106 rfl triInfo ?_)
  | (refine wpList_buildSlice rfl _ _ _ rfl #[(0, fncV (75, #[.agg (triA (some ⟨b, 0, none⟩) (some ⟨g, 0, none⟩) (some ⟨c, 0, none⟩) R.f)], #[])), (1, fncV (89, #[], #[.pointer (some ⟨G, 0, none⟩), .pointer (some ⟨w.heap.size + 1, 0, none⟩)])), (2, fncV (91, #[], #[.pointer (some ⟨G, 0, none⟩), .pointer (some ⟨w.heap.size + 1, 0, none⟩), .pointer (some ⟨gn, 0, none⟩)])), (3, fncV (93, #[], #[.pointer (some ⟨G, 0, none⟩), .pointer (some ⟨w.heap.size + 1, 0, none⟩)])), (4, fncV (94, #[], #[.pointer (some ⟨G, 0, none⟩), .pointer (some ⟨w.heap.size + 1, 0, none⟩)]))] rfl (qmD _ _ _ _ _ _) ?_)
  | (go_at_call 50; refine HC.out.mono ?_; rintro e w5 ⟨q, rfl, hq⟩))
 obtain ⟨hq1, ⟨N', hq2⟩, hq3⟩ := hq
 have hfin : Rch w U b g c R N' (B + 1 + x.proof.length) w5 := Rch.then (L6.Turn.of_keep hw4) (fun _ => .inl) hq2
 clear hx4 kn3 hw4 hq2 HC
 by_cases h0 : q = 0
 case neg =>
  have E := hid (show r = (0, q) by rw [HE.out, <- hq1, if_pos h0])
  have q1 : (q != 0) = true := by simpa using h0
  clear HE h0 hq1 hq3
  go_wp2
  go_ret2
  rw [E.out]
  exact ⟨rfl, N', by rw [HPL.out]; exact hfin⟩
 have hkn := hq3 h0
 have cn : w5.cell? ⟨gn, 0, none⟩ = some (.int .i64 n) := hkn.cell 0
 have E := hid (show r = (n, 0) by rw [HE.out, <- hq1, if_neg (by simpa using h0)])
 subst h0
 clear HE hq1 hq3 hkn
 go_wp2
 go_ret2
 rw [E.out]
 exact ⟨rfl, N', by rw [HPL.out]; exact hfin⟩
