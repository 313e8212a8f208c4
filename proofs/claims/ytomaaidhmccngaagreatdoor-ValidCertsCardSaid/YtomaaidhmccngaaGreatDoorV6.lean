import Derived.Test.YtomaaidhmccngaaGreatDoorV3
set_option linter.unusedSimpArgs false
set_option linter.unusedVariables false
set_option maxRecDepth 100000
set_option maxHeartbeats 16000000
namespace Go.Proofs.YtomaaidhmccngaaGreatDoor
open Go.RowKit Go.Maps Go.Lib
open L7 (Shr cntE enoughE allE firstE inN)
open L4 (more isF cnt bts)
open L11 (Crt mayV endV setV sgV okW stmV)
theorem qd1 {f : Int} {bad : Nat} {L : List Shr} {s : L7.Stm} : ∀ {l : List Nat}, firstE f bad L s l = 0 ↔ ∀ k ∈ l, cntE f bad L ⟨k, s⟩ = 0
 | [] => by simp [L7.firstE]
 | k :: ks => by
   rw [L7.qd0]
   by_cases h : cntE f bad L ⟨k, s⟩ = 0
   ·rw [if_pos h, qd1]
    simp [h]
   ·rw [if_neg h]
    simp [h]
theorem qcO {f : Int} {bad : Nat} {L : List Shr} {s : L7.Stm} {n : Nat} {least : Int} : enoughE f bad L s n least = 0 ↔ L4.checkV f n = 0 /\ (∀ k ∈ bts 0 n, cntE f bad L ⟨k, s⟩ = 0) /\ ¬ (cnt n : Int) < least := by
 unfold L7.enoughE L7.allE
 by_cases h : L4.checkV f n = 0
 ·rw [if_pos h]
  by_cases h2 : firstE f bad L s (bts 0 n) = 0
  ·rw [if_pos h2]
   have h3 := qd1.1 h2
   by_cases h4 : (cnt n : Int) < least
   ·rw [if_pos h4]; simp [h4]
   ·rw [if_neg h4]; exact ⟨fun _ => ⟨h, h3, h4⟩, fun _ => rfl⟩
  ·rw [if_neg h2]
   exact ⟨fun h3 => absurd h3 h2, fun h3 => absurd (qd1.2 h3.2.1) h2⟩
 ·rw [if_neg h, if_neg h]
  exact ⟨fun h3 => absurd h3 h, fun h3 => absurd h3.1 h⟩
def moreC (c : Crt) (k : Nat) : Crt := { c with sg := c.sg ||| 2 ^ k }
theorem qlT {n k i : Nat} : i ∈ bts 0 (n ||| 2 ^ k) ↔ i ∈ bts 0 n ∨ i = k := by
 rw [L4.qev, L4.qev]
 simp only [Nat.zero_le, true_and, Nat.sub_zero, Nat.testBit_or, Bool.or_eq_true, Nat.testBit_two_pow, decide_eq_true_eq]
 constructor
 ·rintro (h | h)
  ·exact .inl h
  ·exact .inr h.symm
 ·rintro (h | h)
  ·exact .inl h
  ·exact .inr h.symm
theorem qks {f : Int} {n k : Nat} (h : L4.checkV f n = 0) (hk : inN f (k : Int) = true) : L4.checkV f (n ||| 2 ^ k) = 0 := by
 unfold L4.checkV at h ⊢
 by_cases hf : isF f = true
 ·rw [if_pos hf] at h ⊢
  by_cases hn : n < 2 ^ (more 3 f).toNat
  ·have h2 := L7.qjg hk
   have hkm : k < (more 3 f).toNat := by omega
   rw [if_pos (Nat.or_lt_two_pow hn (Nat.pow_lt_pow_right (by decide) hkm))]
  ·rw [if_neg hn] at h
   omega
 ·rw [if_neg hf] at h
  omega
theorem qfH {R : Regs} {c : Crt} (hk : c.kind ≠ 0) : certE R c = 0 ↔ mayV c = true /\ fitE R c = 0 /\ sigE R c = 0 /\ elcE R c = 0 := by
 unfold certE
 by_cases hm : mayV c = false
 ·rw [if_pos hm]; simp [hm]
 ·rw [if_neg hm, if_neg hk]
  have hm' : mayV c = true := by simpa using hm
  by_cases h1 : fitE R c = 0
  ·by_cases h2 : sigE R c = 0
   ·simp [h1, h2, hm']
   ·simp [h1, h2]
  ·simp [h1]
theorem more_val {R : Regs} {c : Crt} {k : Nat} (hR : R.wf) (hc : certE R c = 0) (hk : c.kind ≠ 0) : certE R (moreC c k) = 0 ↔ cntE R.f R.bad R.L (shrOf k (stmV c)) = 0 := by
 have hk' : (moreC c k).kind ≠ 0 := hk
 obtain ⟨h1, h2, h3, h4⟩ := (qfH hk).1 hc
 have e2 : fitE R (moreC c k) = fitE R c := rfl
 have e4 : elcE R (moreC c k) = elcE R c := rfl
 have es : stmV (moreC c k) = stmV c := rfl
 have hs := h3
 unfold sigE at hs
 obtain ⟨s1, s2, s3⟩ := qcO.1 hs
 rw [qfH hk', e2, e4]
 constructor
 ·rintro ⟨_, _, h, _⟩
  unfold sigE at h
  rw [es] at h
  exact (qcO.1 h).2.1 k (qlT.2 (.inr rfl))
 ·intro h
  have hin : inN R.f (k : Int) = true := by
   unfold L7.cntE at h
   by_cases hi : inN R.f (shrOf k (stmV c)).k = true
   ·exact hi
   ·rw [if_neg hi] at h; omega
  have hk10 : k < 10 := by
   have := L7.qjg hin
   have h0 := hR.hf
   unfold L4.more at this
   rw [if_pos h0] at this
   have : 1 <= R.f /\ R.f <= 3 := by unfold L4.isF at h0; simpa using h0
   omega
  refine ⟨?_, h2, ?_, h4⟩
  ·have hlt : ∀ n, setV n = true -> setV (n ||| 2 ^ k) = true := fun n hn => by
    unfold L11.setV at *
    have := of_decide_eq_true hn
    exact decide_eq_true (Nat.or_lt_two_pow (n := 10) this (Nat.pow_lt_pow_right (by decide) hk10))
   have hne : c.sg ||| 2 ^ k ≠ 0 := by
    intro h0
    have := (Nat.right_le_or : 2 ^ k <= c.sg ||| 2 ^ k)
    have := Nat.two_pow_pos k
    omega
   have hsg : sgV c = true -> sgV (moreC c k) = true := by
    unfold L11.sgV
    simp only [Bool.and_eq_true, Bool.not_eq_true', decide_eq_false_iff_not]
    rintro ⟨⟨⟨⟨a, b⟩, d⟩, _⟩, e⟩
    exact ⟨⟨⟨⟨a, b⟩, d⟩, hne⟩, hlt _ e⟩
   unfold L11.mayV at h1 ⊢
   have ek : (moreC c k).kind = c.kind := rfl
   rw [if_neg hk] at h1
   rw [ek, if_neg hk]
   split at h1
   ·rename_i h11
    rw [if_pos h11]
    simp only [Bool.and_eq_true] at h1 ⊢
    exact ⟨⟨⟨hsg h1.1.1.1, h1.1.1.2⟩, h1.1.2⟩, h1.2⟩
   ·rename_i h11
    rw [if_neg h11]
    split at h1
    ·rename_i h12
     rw [if_pos h12]
     simp only [Bool.and_eq_true] at h1 ⊢
     exact ⟨⟨⟨hsg h1.1.1.1, h1.1.1.2⟩, h1.1.2⟩, h1.2⟩
    ·cases h1
  ·unfold sigE
   rw [es]
   refine qcO.2 ⟨qks s1 hin, fun i hi => ?_, ?_⟩
   ·rcases qlT.1 hi with hi | rfl
    ·exact s2 i hi
    ·exact h
   ·have := L4.cnt_put c.sg k
    have e : (moreC c k).sg = c.sg ||| 2 ^ k := rfl
    rw [e, this]
    split <;> omega
end Go.Proofs.YtomaaidhmccngaaGreatDoor
namespace Go.Proofs.YtomaaidhmccngaaGreatDoor
open Go.RowKit Go.Maps Go.Lib
open L7 (Shr cntE enoughE allE firstE inN)
open L4 (more isF cnt bts)
open L11 (Crt mayV endV setV sgV okW stmV)
theorem cont_grow {K : List ByteArray} (K' : List ByteArray) {n : Int} (h : L5.contE K n = 0) : L5.contE (K ++ K') n = 0 /\ L5.contS (K ++ K') n = L5.contS K n := by
 have hn : ¬ (n < 1 ∨ (K.length : Int) < n) := by
  intro hn
  unfold L5.contE at h
  rw [if_pos hn] at h
  exact absurd h (by decide)
 have hl : ¬ (n < 1 ∨ ((K ++ K').length : Int) < n) := by
  rw [List.length_append]
  simp only [not_or, Int.not_lt] at hn ⊢
  omega
 unfold L5.contE L5.contS
 rw [if_neg hl, if_neg hl, if_neg hn]
 refine ⟨rfl, ?_⟩
 have hi : n.toNat - 1 < K.length := by simp only [not_or, Int.not_lt] at hn; omega
 rw [List.getD_eq_getElem?_getD, List.getD_eq_getElem?_getD, List.getElem?_append_left hi]
end Go.Proofs.YtomaaidhmccngaaGreatDoor
namespace Go.Proofs.YtomaaidhmccngaaGreatDoor
open Go.RowKit Go.Maps Go.Lib
open L7 (Shr cntE issL)
open L5 (enterL)
open L4 (more isF cnt bts)
open L11 (Crt mayV)
end Go.Proofs.YtomaaidhmccngaaGreatDoor
namespace Go.Proofs.YtomaaidhmccngaaGreatDoor
open Go.RowKit Go.Maps Go.Lib
open L3 (Blk Reads)
open L7 (Shr shrC shrL)
structure FrAt (w : World) (x : InV) (a : InA) (W : World) : Prop where
 bi : Blk W w.heap.size 27 (inC x a)
 hin : InAt x a W
 bw : Below w.heap.size w W
theorem FrAt.below {w W W' : World} {x : InV} {a : InA} (h : FrAt w x a W) (hb : Below W.heap.size W W') : FrAt w x a W' := ⟨h.bi.below hb h.bi.lt, h.hin.below hb, nxt h.bw hb⟩
theorem far_any (x : InV) (a : InA) (w : World) (hx : x.raw) (hin : InAt x a w) :
 Calls Tryz.prog 9 #[.agg (inC x a)] w (gives (.bool (farV x)) w) := by
 have F0 := hid (show FrAt w x a (w.alloc (.cells (inC x a) 27)) from ⟨Blk.new _ _ _, hin.below (qae _ _), qae _ _⟩)
 have HX := hid hx
 obtain ⟨v, hv⟩ := nm (farV x)
 have hV : v = (decide (30 < x.bs.length) || (decide (10 < x.cs.length) || (decide (120 < x.ss.length) || (decide (20 < x.gs.length) || (x.bs.any (fun y => greatK y.b) || x.cs.any (fun s => decide (3000 < s.length))))))) := hv
 rw [<- hv]
 obtain ⟨n1, hn1⟩ := nm (x.bs.length)
 obtain ⟨n2, hn2⟩ := nm (x.cs.length)
 obtain ⟨n3, hn3⟩ := nm (x.ss.length)
 obtain ⟨n4, hn4⟩ := nm (x.gs.length)
 rw [<- hn1, <- hn2, <- hn3, <- hn4] at hV
 have HV := hid hV
 have HN := hid (And.intro hn1 (And.intro hn2 (And.intro hn3 hn4)))
 have HM := hid (show n1 <= maxLen /\ n2 <= maxLen /\ n3 <= maxLen /\ n4 <= maxLen by rw [hn1, hn2, hn3, hn4]; exact ⟨hx.n1, hx.n2, hx.n3, hx.n4⟩)
 clear hv hV hx hin
 go_enter Tryz.func9, Tryz.ntmps9
 go_upto_region 1 with fail
 refine qab (fun w0 hw0 => ?_)
 have hA : FrAt w x a w0 := by rw [hw0]; exact F0.out
 clear hw0 F0
 have c2 : w0.cell? ⟨w.heap.size, 2, none⟩ = some (.slice a.A1 n1 a.c1) := by rw [hn1]; exact hA.bi.cell 2
 have c3 : w0.cell? ⟨w.heap.size, 3, none⟩ = some (.slice a.A2 n2 a.c2) := by rw [hn2]; exact hA.bi.cell 3
 have c4 : w0.cell? ⟨w.heap.size, 4, none⟩ = some (.slice a.A3 n3 a.c3) := by rw [hn3]; exact hA.bi.cell 4
 have c5 : w0.cell? ⟨w.heap.size, 5, none⟩ = some (.slice a.A4 n4 a.c4) := by rw [hn4]; exact hA.bi.cell 5
 clear hn1 hn2 hn3 hn4
 have hm := HM.out
 unfold maxLen at hm
 by_cases h1 : 30 < n1
 ·have E := hid (show v = true by rw [HV.out, decide_eq_true h1]; rfl)
  go_wp2
  go_ret
  exact ⟨by rw [E.out]; rfl, hA.bw⟩
 by_cases h2 : 10 < n2
 ·have E := hid (show v = true by rw [HV.out, decide_eq_true h2]; simp)
  go_wp2
  go_ret
  exact ⟨by rw [E.out]; rfl, hA.bw⟩
 by_cases h3 : 120 < n3
 ·have E := hid (show v = true by rw [HV.out, decide_eq_true h3]; simp)
  go_wp2
  go_ret
  exact ⟨by rw [E.out]; rfl, hA.bw⟩
 by_cases h4 : 20 < n4
 ·have E := hid (show v = true by rw [HV.out, decide_eq_true h4]; simp)
  go_wp2
  go_ret
  exact ⟨by rw [E.out]; rfl, hA.bw⟩
 have hV2 : v = (x.bs.any (fun y => greatK y.b) || x.cs.any (fun s => decide (3000 < s.length))) := by
  rw [HV.out, decide_eq_false h1, decide_eq_false h2, decide_eq_false h3, decide_eq_false h4]; rfl
 have HV2 := hid hV2
 clear hV2
 go_wp2
 clear c2 c3 c4 c5
 go_loopw [3] (fun i wr => ∃ k : Nat, i = .int .i64 k /\ k <= n1 /\ FrAt w x a wr /\ (x.bs.take k).any (fun y => greatK y.b) = false) (fun i _ => n1 - (RowKit.intOf i).toNat)
 case atStart => exact ⟨0, rfl, Nat.zero_le _, hA, rfl⟩
 case round =>
  obtain ⟨k, rfl, hk, hAk, hno⟩ := hrel
  clear hA
  have i2 : wr.cell? ⟨w.heap.size, 2, none⟩ = some (.slice a.A1 n1 a.c1) := by rw [HN.out.1]; exact hAk.bi.cell 2
  by_cases hlt : k < n1
  ·have hkL : k < x.bs.length := by have := HN.out.1; omega
   obtain ⟨ad, hA1, hadl, hxx⟩ := hAk.hin.r1 k hkL
   clear hxx
   rw [hA1] at i2
   obtain ⟨y, hy⟩ := nm (x.bs[k])
   have hyw : y.b.raw := by rw [hy]; exact HX.out.bs _ (List.getElem_mem hkL)
   have hymem : y ∈ x.bs := by rw [hy]; exact List.getElem_mem hkL
   have hsn : (x.bs.take (k + 1)).any (fun y => greatK y.b) = greatK y.b := by rw [List.take_succ_eq_append_getElem hkL, List.any_append, hno, hy]; simp
   have hcs1 : ∀ j u, (bkL y)[j]? = some u -> wr.cell? ((ad.add (k * 14)).add j) = some u := by rw [hy]; exact qiS (by have := hAk.hin.r1; rw [hA1] at this; exact this) hkL
   have hgr : Calls Tryz.prog 24 #[.agg (bkL y).toArray] wr (gives (.bool (greatK y.b)) wr) := qkn y.b y.A y.c y.D y.d wr hyw (hAk.hin.rp y hymem) (hAk.hin.rt y hymem)
   rcases Bool.eq_false_or_eq_true (greatK y.b) with hg | hg
   ·have E := hid (show v = true by
     rw [HV2.out]
     have : x.bs.any (fun y => greatK y.b) = true := List.any_eq_true.2 ⟨y, hymem, hg⟩
     rw [this]; rfl)
    rw [hg] at hgr
    have HA := hid hAk
    clear hsn hy hyw hymem hadl hkL hA1 hno hAk hg
    go_wp2_with (first
     | (refine qai rfl _ _ rfl (ad.add (k * 14)) rfl (bkL y) _ hcs1 Tryz.underlying57 rfl (bkInfo y) ?_)
     | (go_at_call 24; refine hgr.mono ?_; unfold gives; rintro e w9 ⟨rfl, hb9⟩))
    go_ret
    exact ⟨by rw [E.out]; rfl, nxt HA.out.bw hb9⟩
   ·rw [hg] at hgr hsn
    have HA := hid (And.intro hAk hsn)
    clear hsn hy hyw hymem hadl hkL hA1 hno hAk hg
    go_wp2_with (first
     | (refine qai rfl _ _ rfl (ad.add (k * 14)) rfl (bkL y) _ hcs1 Tryz.underlying57 rfl (bkInfo y) ?_)
     | (go_at_call 24; refine hgr.mono ?_; unfold gives; rintro e w9 ⟨rfl, hb9⟩))
    go_roundw
    case rel => exact ⟨k + 1, by go_num, by omega, HA.out.1.below hb9, HA.out.2⟩
    case measure => simp [RowKit.intOf]; omega
  ·obtain rfl : k = n1 := by omega
   have hfull : x.bs.take k = x.bs := List.take_of_length_le (by have := HN.out.1; omega)
   rw [hfull] at hno
   have HV3 := hid (show v = x.cs.any (fun s => decide (3000 < s.length)) by rw [HV2.out, hno]; rfl)
   clear hno hfull HV2 HV
   go_wp2
   clear i2
   go_loopw [4] (fun i wr => ∃ k : Nat, i = .int .i64 k /\ k <= n2 /\ FrAt w x a wr /\ (x.cs.take k).any (fun s => decide (3000 < s.length)) = false) (fun i _ => n2 - (RowKit.intOf i).toNat)
   case atStart => exact ⟨0, rfl, Nat.zero_le _, hAk, rfl⟩
   case round =>
    obtain ⟨k, rfl, hk, hA, hno⟩ := hrel
    clear hAk
    have i3 : wr.cell? ⟨w.heap.size, 3, none⟩ = some (.slice a.A2 n2 a.c2) := by rw [HN.out.2.1]; exact hA.bi.cell 3
    by_cases hlt : k < n2
    ·have hkL : k < x.cs.length := by have := HN.out.2.1; omega
     obtain ⟨ad, hA1, hadl, hxx⟩ := hA.hin.r2 k hkL
     clear hxx
     rw [hA1] at i3
     have hst : wr.cell? (ad.add k) = some (.string (str x.cs[k])) := qmF (by have := hA.hin.r2; rw [hA1] at this; exact this) hkL
     have hsz : (str x.cs[k]).size = x.cs[k].length := qa4 _
     have hle : x.cs[k].length <= maxLen := HX.out.cs _ (List.getElem_mem hkL)
     unfold maxLen at hle
     have hsn : (x.cs.take (k + 1)).any (fun s => decide (3000 < s.length)) = decide (3000 < x.cs[k].length) := by rw [List.take_succ_eq_append_getElem hkL, List.any_append, hno]; simp
     have hmem : x.cs[k] ∈ x.cs := List.getElem_mem hkL
     obtain ⟨s, hs⟩ := nm (x.cs[k])
     rw [<- hs] at hst hsz hle hsn hmem
     obtain ⟨t, ht⟩ := nm (str s)
     rw [<- ht] at hst hsz
     by_cases hg : 3000 < s.length
     ·have E := hid (show v = true by
       rw [HV3.out]
       exact List.any_eq_true.2 ⟨s, hmem, decide_eq_true hg⟩)
      have hg' : 3000 < t.size := by omega
      have hg'' : t.size <= 9223372036854775807 := by omega
      have HA := hid hA
      clear hsn hs hmem hadl hkL hA1 hno hA hg hsz ht hle
      go_wp2
      go_ret
      exact ⟨by rw [E.out]; rfl, HA.out.bw⟩
     ·rw [decide_eq_false hg] at hsn
      have hg' : ¬ 3000 < t.size := by omega
      have HA := hid (And.intro hA hsn)
      clear hsn hs hmem hadl hkL hA1 hno hA hg hsz ht hle
      go_wp2
      go_roundw
      case rel => exact ⟨k + 1, by go_num, by omega, HA.out.1, HA.out.2⟩
      case measure => simp [RowKit.intOf]; omega
    ·obtain rfl : k = n2 := by omega
     have hfull : x.cs.take k = x.cs := List.take_of_length_le (by have := HN.out.2.1; omega)
     rw [hfull] at hno
     have E := hid (show v = false by rw [HV3.out, hno])
     have HA := hid hA
     clear hno hfull HV3 hA
     go_wp2
     go_ret
     exact ⟨by rw [E.out]; rfl, HA.out.bw⟩
