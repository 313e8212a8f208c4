import Derived.Test.YtomaaidhmccngaaGreatDoorB5
set_option linter.unusedSimpArgs false
set_option linter.unusedVariables false
set_option maxRecDepth 100000
set_option maxHeartbeats 16000000
namespace Go.Proofs.YtomaaidhmccngaaGreatDoor
open Go.RowKit Go.Lib
open L3 (Blk Reads)
open L11 (Crt zeroC crtL crtC mayV okW crtInfo qal eqlC neqC qbc qaj)
theorem qlQ {α : Type} {L M : List α} (h : L.length = M.length) (he : ∀ j (h1 : j < L.length) (h2 : j < M.length), L[j] = M[j]) : L = M := List.ext_getElem h he
theorem qgx {α : Type} {L M : List α} {j : Nat} (h1 : j < L.length) (h2 : j < M.length) (h : L[j] ≠ M[j]) : L ≠ M := fun e => by subst e; exact h rfl
theorem qgE (A : Option Addr) (c : Nat) (L : List Txx) (B : Option Addr) (d : Nat) (M : List Txx) (w : World) (hl : ∀ t ∈ L, t.wf 1000000) (hm : ∀ t ∈ M, t.wf 1000000) (hr : Rd txL 7 w A L) (hs : Rd txL 7 w B M) (hn : L.length <= 100000) (hn2 : M.length <= 100000) :
 Calls Tryz.prog 84 #[.slice A L.length c, .slice B M.length d] w (gives (.bool (decide (L = M))) w) := by
 by_cases hlen : L.length = M.length
 case neg =>
  have e : decide (L = M) = false := decide_eq_false (fun e => hlen (by rw [e]))
  rw [e]
  obtain ⟨n, hn'⟩ : ∃ n, n = L.length := ⟨_, rfl⟩
  obtain ⟨m, hm'⟩ : ∃ m, m = M.length := ⟨_, rfl⟩
  rw [<- hn', <- hm'] at hlen ⊢
  have h1 : ((n : Int) != (m : Int)) = true := by simp; omega
  have h2 : ((n : Int) == (m : Int)) = false := by simp; omega
  clear e hlen hl hm hr hs hn hn2 hn' hm'
  go_enter Tryz.func84, Tryz.ntmps84
  go_wp2
  go_ret
  exact ⟨rfl, Below.refl _ _⟩
 have HR := hid (And.intro hr hs)
 have HL := hid (And.intro hl hm)
 rw [<- hlen]
 obtain ⟨n, hn'⟩ : ∃ n, n = L.length := ⟨_, rfl⟩
 rw [<- hn'] at hlen hn ⊢
 obtain ⟨r, hrr⟩ := nm (decide (L = M))
 rw [<- hrr]
 have HN := hid (And.intro hn' hlen)
 have HRR := hid hrr
 clear hr hs hl hm hn' hlen hrr hn2
 go_enter Tryz.func84, Tryz.ntmps84
 go_wp2
 go_loopw [5] (fun i wr => ∃ k : Nat, i = .int .i64 k /\ k <= n /\ Hid (∀ j (h1 : j < L.length) (h2 : j < M.length), j < k -> L[j] = M[j]) /\ Below w.heap.size w wr) (fun i _ => n - (RowKit.intOf i).toNat)
 case atStart => exact ⟨0, rfl, Nat.zero_le _, hid (fun j _ _ hj => absurd hj (by omega)), Below.refl _ _⟩
 case round =>
  obtain ⟨k, rfl, hk, hno, hbw⟩ := hrel
  by_cases hlt : k < n
  ·have hkL : k < L.length := by have := HN.out.1; omega
   have hkM : k < M.length := by have := HN.out.2; omega
   obtain ⟨ad, rfl, hadl, hcs⟩ := (HR.out.1.below hbw) k hkL
   obtain ⟨bd, rfl, hbdl, hds⟩ := (HR.out.2.below hbw) k hkM
   have hx := HL.out.1 _ (List.getElem_mem hkL)
   have hy := HL.out.2 _ (List.getElem_mem hkM)
   obtain ⟨x, hxe⟩ := nm (L[k])
   obtain ⟨y, hye⟩ := nm (M[k])
   rw [<- hxe] at hcs hx
   rw [<- hye] at hds hy
   have hc0 : ∀ j u, (txL x)[j]? = some u -> wr.cell? ((ad.add (k * 7)).add j) = some u := hcs
   have hd0 : ∀ j u, (txL y)[j]? = some u -> wr.cell? ((bd.add (k * 7)).add j) = some u := hds
   have hne := fun W => neqX hx hy (by unfold maxLen; omega) W
   have HX : Hid (∃ (h1 : k < L.length) (h2 : k < M.length), x = L[k]'h1 /\ y = M[k]'h2) := hid ⟨hkL, hkM, hxe, hye⟩
   clear hxe hye hkL hkM hcs hds
   go_upto_region 6 with fail
   refine qat (Below wr.heap.size wr) (by kernel_rfl) (by kernel_rfl) (Below.refl wr.heap.size wr).drew ?_
   have ne : Nonempty (qad (Below wr.heap.size wr)) := ⟨⟨_, Below.refl wr.heap.size wr⟩⟩
   iterate 3 go_big_quiet_step (fail)
   refine qaI rfl _ _ rfl (ad.add (k * 7)) rfl (txL x) _ (fun z j u hj => (z.h.cell (p := (ad.add (k * 7)).add j) (L2.qbe (hc0 j u hj))).trans (hc0 j u hj)) Tryz.underlying133 rfl txInfo ?_
   conv => arg 6; simp only [Act.put, sA, sB, sC]
   iterate 3 go_big_quiet_step (fail)
   refine qaI rfl _ _ rfl (bd.add (k * 7)) rfl (txL y) _ (fun z j u hj => (z.h.cell (p := (bd.add (k * 7)).add j) (L2.qbe (hd0 j u hj))).trans (hd0 j u hj)) Tryz.underlying133 rfl txInfo ?_
   conv => arg 6; simp only [Act.put, sA, sB, sC]
   by_cases he : x = y
   ·rw [decide_eq_true he] at hne
    have HQ := hid hne
    have HE := hid he
    clear he hne
    refine qca rfl _ _ _ _ _ rfl (txC x) (txC y) rfl rfl (by kernel_rfl) HQ.out ?_
    conv => arg 6; simp only [Act.put, sA, sB, sC]
    refine wpQuiet_nil ?_
    intro z
    obtain ⟨W, hW⟩ := z
    dsimp only
    go_wp2
    go_roundw
    case rel =>
     refine ⟨k + 1, by go_num, by omega, hid (fun j h1 h2 hj => ?_), nxt hbw hW⟩
     rcases Nat.lt_or_ge j k with h | h
     ·exact hno.out j h1 h2 h
     ·obtain rfl : j = k := by omega
      obtain ⟨_, _, ex, ey⟩ := HX.out
      rw [<- ex, <- ey]; exact HE.out
    case measure => simp [RowKit.intOf]; omega
   ·rw [decide_eq_false he] at hne
    have HQ := hid hne
    have HE : Hid (r = false) := hid (by
     obtain ⟨h1, h2, ex, ey⟩ := HX.out
     rw [HRR.out, decide_eq_false (qgx h1 h2 (by rw [<- ex, <- ey]; exact he))])
    clear he hne
    refine qca rfl _ _ _ _ _ rfl (txC x) (txC y) rfl rfl (by kernel_rfl) HQ.out ?_
    conv => arg 6; simp only [Act.put, sA, sB, sC]
    refine wpQuiet_nil ?_
    intro z
    obtain ⟨W, hW⟩ := z
    dsimp only
    go_wp2
    go_ret
    exact ⟨by rw [HE.out]; rfl, nxt hbw hW⟩
  ·have HE : Hid (r = true) := hid (by
    rw [HRR.out, decide_eq_true (qlQ (HN.out.1.symm.trans HN.out.2) (fun j h1 h2 => hno.out j h1 h2 (by have := HN.out.1; omega)))])
   clear hno
   go_wp2_with fail
   go_ret
   exact ⟨by rw [HE.out]; rfl, hbw⟩
theorem qhI (A : Option Addr) (c : Nat) (L : List Txx) (B : Option Addr) (d : Nat) (M : List Txx) (r : Bool) (w : World) (hl : ∀ t ∈ L, t.wf 1000000) (hm : ∀ t ∈ M, t.wf 1000000) (hr : Rd txL 7 w A L) (hs : Rd txL 7 w B M) (hn : L.length <= 100000) (hn2 : M.length <= 100000) (hd : decide (L = M) = r) :
 Calls Tryz.prog 84 #[.slice A L.length c, .slice B M.length d] w (gives (.bool r) w) := by have := qgE A c L B d M w hl hm hr hs hn hn2; rw [hd] at this; exact this
end Go.Proofs.YtomaaidhmccngaaGreatDoor
namespace Go.Proofs.YtomaaidhmccngaaGreatDoor
open Go.RowKit Go.Lib
open L3 (Blk Reads)
open L11 (Crt zeroC crtL crtC mayV okW crtInfo qal eqlC neqC qbc qaj)
theorem Rd.at_ {α : Type} {f : α -> List Value} {k : Nat} {w : World} {ad : Addr} {L : List α} (h : Rd f k w (some ad) L) {i : Nat} (hi : i < L.length) : ∀ j u, (f L[i])[j]? = some u -> w.cell? ((ad.add (i * k)).add j) = some u := fun j u hj => by
 obtain ⟨ad', e, _, hc⟩ := h i hi
 injection e with e
 subst e
 exact hc j u hj
theorem qkF (a b : Blo) : sameV a b = (decide (a.view = b.view) && (decide (a.round = b.round) && (decide (a.height = b.height) && (decide (a.author = b.author) && (decide (a.par = b.par) && (decide (a.proof.length = b.proof.length) && (decide (a.txs = b.txs) && decide (a.proof = b.proof)))))))) := by
 unfold sameV
 by_cases h : a.proof = b.proof
 ·rw [h]; simp
 ·rw [decide_eq_false h]; simp
end Go.Proofs.YtomaaidhmccngaaGreatDoor
namespace Go.Proofs.YtomaaidhmccngaaGreatDoor
open Go.RowKit Go.Lib
open L3 (Blk Reads)
open L11 (Crt zeroC crtL crtC mayV okW crtInfo qal eqlC neqC qbc qaj)
theorem qmq (a b : Blo) (A : Option Addr) (c : Nat) (B : Option Addr) (d : Nat) (A' : Option Addr) (c' : Nat) (B' : Option Addr) (d' : Nat) (w : World) (ha : a.wf) (hb : b.wf)
 (pa : Rd tmL 10 w A a.proof) (ta : Rd txL 7 w B a.txs) (pb : Rd tmL 10 w A' b.proof) (tb : Rd txL 7 w B' b.txs)
 (a1 : decide (a.view = b.view) = true) (a2 : decide (a.round = b.round) = true) (a3 : decide (a.height = b.height) = true) (a4 : decide (a.author = b.author) = true) (a5 : decide (a.par = b.par) = true) (a6 : decide (a.proof.length = b.proof.length) = true) (a7 : decide (a.txs = b.txs) = true) :
 Calls Tryz.prog 21 #[.agg (bloC a (.slice A a.proof.length c) (.slice B a.txs.length d)), .agg (bloC b (.slice A' b.proof.length c') (.slice B' b.txs.length d'))] w (gives (.bool (sameV a b)) w) := by
 replace a1 := hid a1
 replace a2 := hid a2
 replace a3 := hid a3
 replace a4 := hid a4
 replace a5 := hid a5
 replace a6 := hid a6
 replace a7 := hid a7
 have F0 := hid (twoB_mk (c := c) (d := d) (c' := c') (d' := d') pa ta pb tb)
 have HT := hid (fun W r (h : TwoB w a b A c B d A' c' B' d' W) hr => qhI B d a.txs B' d' b.txs r W ha.txs hb.txs h.ta h.tb (by have := ha.nt; omega) (by have := hb.nt; omega) hr)
 have HC := hid (fun W => neqC ha.par hb.par W)
 have HWF := hid (And.intro ha.proof hb.proof)
 have hnp := ha.np
 have e := qkF a b
 clear ha hb pa ta pb tb
 go_enter Tryz.func21, Tryz.ntmps21
 go_upto_region 1 with fail
 refine qab (fun w0 hw0 => ?_)
 have hA : TwoB w a b A c B d A' c' B' d' w0 := by rw [hw0]; exact F0.out
 clear hw0 F0
 obtain ⟨⟨x0, x1, x2, x3, x12, x13⟩, y0, y1, y2, y3, y12, y13⟩ := hA.cells
 obtain ⟨px, py⟩ := hA.pars
 have hbw := hA.bw
 replace a1 := a1.out
 replace a2 := a2.out
 replace a3 := a3.out
 replace a4 := a4.out
 replace a5 := a5.out
 replace a6 := a6.out
 replace a7 := a7.out
 rw [a1, a2, a3, a4, a5, a6, a7] at e
 have E := hid e
 obtain ⟨q1, _⟩ := beq_d a1
 obtain ⟨q2, _⟩ := beq_d a2
 obtain ⟨q3, _⟩ := beq_d a3
 obtain ⟨q4, _⟩ := beq_d a4
 have HC2 : Hid (∀ W, (binOp .neq 29 (.agg (crtC a.par)) (.agg (crtC b.par))).run Tryz.prog W = .ok (.bool false) W) := hid (fun W => by rw [HC.out W, a5]; rfl)
 have hlen := of_decide_eq_true a6
 rw [<- hlen] at y12
 have HLEN := hid hlen
 clear hlen
 have hT := HT.out w0 _ hA a7
 have E2 : Hid (sameV a b = decide (a.proof = b.proof)) := hid (by rw [E.out]; rfl)
 clear e E a1 a2 a3 a4 a5 a6 a7 HT HC
 go_upto_region 3 with (first
  | (refine qai ?hw _ _ rfl ⟨w.heap.size, 4, none⟩ rfl (crtL a.par) _ px Tryz.underlying29 rfl crtInfo ?_
     case hw => rfl
     (try simp only [Act.put, sA, sB, sC]))
  | (refine qai ?hw _ _ rfl ⟨w.heap.size + 1, 4, none⟩ rfl (crtL b.par) _ py Tryz.underlying29 rfl crtInfo ?_
     case hw => rfl
     (try simp only [Act.put, sA, sB, sC]))
  | (refine qbc ?hw _ _ _ _ _ rfl (crtC a.par) (crtC b.par) rfl rfl (by kernel_rfl) (HC2.out _) ?_
     case hw => rfl
     (try simp only [Act.put, sA, sB, sC]))
  | (go_at_call 84; refine hT.mono ?_; unfold gives; rintro e w1 ⟨rfl, hb1⟩))
 have hB := hA.below hb1
 clear hA hT HC2 x0 x1 x2 x3 x12 x13 y0 y1 y2 y3 y12 y13 px py hbw q1 q2 q3 q4 hb1
 obtain ⟨n, hn⟩ := nm (a.proof.length)
 have HN := hid hn
 have x12 : w1.cell? ⟨w.heap.size, 12, none⟩ = some (.slice A n c) := by rw [hn]; exact hB.ba.cell 12
 rw [<- hn] at hnp
 clear hn
 go_wp2
 go_loopw [5] (fun i wr => ∃ k : Nat, i = .int .i64 k /\ k <= n /\ Hid (∀ j (h1 : j < a.proof.length) (h2 : j < b.proof.length), j < k -> a.proof[j] = b.proof[j]) /\ TwoB w a b A c B d A' c' B' d' wr) (fun i _ => n - (RowKit.intOf i).toNat)
 case atStart => exact ⟨0, rfl, Nat.zero_le _, hid (fun j _ _ hj => absurd hj (by omega)), hB⟩
 case round =>
  obtain ⟨k, rfl, hk, hno, hP⟩ := hrel
  clear hB x12
  have x12 : wr.cell? ⟨w.heap.size, 12, none⟩ = some (.slice A n c) := by rw [HN.out]; exact hP.ba.cell 12
  by_cases hlt : k < n
  ·have hkL : k < a.proof.length := by have := HN.out; omega
   have hkM : k < b.proof.length := by have := HLEN.out; omega
   obtain ⟨ad, rfl, hadl, hcs⟩ := hP.pa k hkL
   obtain ⟨bd, rfl, hbdl, hds⟩ := hP.pb k hkM
   have hx := HWF.out.1 _ (List.getElem_mem hkL)
   have hy := HWF.out.2 _ (List.getElem_mem hkM)
   have HA1 : Hid (∀ z : qad (TwoB w a b (some ad) c B d (some bd) c' B' d'), ∀ j u, (tmL a.proof[k])[j]? = some u -> z.w.cell? ((ad.add (k * 10)).add j) = some u) := hid (fun z => z.h.pa.at_ hkL)
   have HB1 : Hid (∀ z : qad (TwoB w a b (some ad) c B d (some bd) c' B' d'), ∀ j u, (tmL b.proof[k])[j]? = some u -> z.w.cell? ((bd.add (k * 10)).add j) = some u) := hid (fun z => z.h.pb.at_ hkM)
   obtain ⟨x, hxe⟩ := nm (a.proof[k])
   obtain ⟨y, hye⟩ := nm (b.proof[k])
   rw [<- hxe] at HA1 hx
   rw [<- hye] at HB1 hy
   have hne := fun W => neqT hx hy W
   have HX : Hid (∃ (h1 : k < a.proof.length) (h2 : k < b.proof.length), x = a.proof[k]'h1 /\ y = b.proof[k]'h2) := hid ⟨hkL, hkM, hxe, hye⟩
   have g12 : ∀ z : qad (TwoB w a b (some ad) c B d (some bd) c' B' d'), z.w.cell? ⟨w.heap.size, 12, none⟩ = some (.slice (some ad) n c) := fun z => by rw [HN.out]; exact z.h.ba.cell 12
   have f12 : ∀ z : qad (TwoB w a b (some ad) c B d (some bd) c' B' d'), z.w.cell? ⟨w.heap.size + 1, 12, none⟩ = some (.slice (some bd) n c') := fun z => by rw [HN.out, HLEN.out]; exact z.h.bb.cell 12
   clear hxe hye hkL hkM hcs hds
   go_upto_region 6 with fail
   refine qat (TwoB w a b (some ad) c B d (some bd) c' B' d') (by kernel_rfl) (by kernel_rfl) hP.drew ?_
   have ne : Nonempty (qad (TwoB w a b (some ad) c B d (some bd) c' B' d')) := ⟨⟨_, hP⟩⟩
   iterate 4 go_big_quiet_step (fail)
   refine qaI rfl _ _ rfl (ad.add (k * 10)) rfl (tmL x) _ HA1.out Tryz.underlying31 rfl tmInfo ?_
   conv => arg 6; simp only [Act.put, sA, sB, sC]
   iterate 4 go_big_quiet_step (fail)
   refine qaI rfl _ _ rfl (bd.add (k * 10)) rfl (tmL y) _ HB1.out Tryz.underlying31 rfl tmInfo ?_
   conv => arg 6; simp only [Act.put, sA, sB, sC]
   by_cases he : x = y
   ·rw [decide_eq_true he] at hne
    have HQ := hid hne
    have HE := hid he
    clear he hne
    refine qca rfl _ _ _ _ _ rfl (tmC x) (tmC y) rfl rfl (by kernel_rfl) HQ.out ?_
    conv => arg 6; simp only [Act.put, sA, sB, sC]
    refine wpQuiet_nil ?_
    intro z
    obtain ⟨W, hW⟩ := z
    dsimp only
    go_wp2
    go_roundw
    case rel =>
     refine ⟨k + 1, by go_num, by omega, hid (fun j h1 h2 hj => ?_), hW⟩
     rcases Nat.lt_or_ge j k with h | h
     ·exact hno.out j h1 h2 h
     ·obtain rfl : j = k := by omega
      obtain ⟨_, _, ex, ey⟩ := HX.out
      rw [<- ex, <- ey]; exact HE.out
    case measure => simp [RowKit.intOf]; omega
   ·rw [decide_eq_false he] at hne
    have HQ := hid hne
    have HE : Hid (sameV a b = false) := hid (by
     obtain ⟨h1, h2, ex, ey⟩ := HX.out
     rw [E2.out, decide_eq_false (qgx h1 h2 (by rw [<- ex, <- ey]; exact he))])
    clear he hne
    refine qca rfl _ _ _ _ _ rfl (tmC x) (tmC y) rfl rfl (by kernel_rfl) HQ.out ?_
    conv => arg 6; simp only [Act.put, sA, sB, sC]
    refine wpQuiet_nil ?_
    intro z
    obtain ⟨W, hW⟩ := z
    dsimp only
    go_wp2
    go_ret
    exact ⟨by rw [HE.out]; rfl, hW.bw⟩
  ·have HE : Hid (sameV a b = true) := hid (by
    rw [E2.out, decide_eq_true (qlQ HLEN.out (fun j h1 h2 => hno.out j h1 h2 (by have := HN.out; omega)))])
   have hb := hP.bw
   clear hno hP
   go_wp2_with fail
   go_ret
   exact ⟨by rw [HE.out]; rfl, hb⟩
