/-
  Texts of one layer in one: RefSameE, RefSameF, RefSameG, RefSameH.
-/
import Derived.Test.YtgmejaiifibfoaaGreatDoorR1
import Derived.Test.YtgmejaiifibfoaaGreatDoorRefSameD

/-
  Are two blocks the same: the proofs are not of one length.
-/
set_option linter.unusedSimpArgs false
set_option linter.unusedVariables false
set_option maxRecDepth 10000
namespace Go.Proofs.YtgmejaiifibfoaaGreatDoor
open Go.RowKit Go.Lib
open L3 (Blk Reads)
open L11 (Crt zeroC crtL crtC mayV okW crtInfo crtC_ones eqlC neqC wpList_binop wpQuiet_fn)

set_option maxHeartbeats 4000000 in
set_option maxRecDepth 100000 in
theorem refsame_6 (a b : Blo) (A : Option Addr) (c : Nat) (B : Option Addr) (d : Nat) (A' : Option Addr) (c' : Nat) (B' : Option Addr) (d' : Nat) (w : World) (ha : a.wf) (hb : b.wf)
    (pa : Rd tmL 10 w A a.proof) (ta : Rd txL 7 w B a.txs) (pb : Rd tmL 10 w A' b.proof) (tb : Rd txL 7 w B' b.txs)
    (a1 : decide (a.view = b.view) = true) (a2 : decide (a.round = b.round) = true) (a3 : decide (a.height = b.height) = true) (a4 : decide (a.author = b.author) = true) (a5 : decide (a.par = b.par) = true) (a6 : decide (a.proof.length = b.proof.length) = false) :
    Calls Tryz.prog 35 #[.agg (bloC a (.slice A a.proof.length c) (.slice B a.txs.length d)), .agg (bloC b (.slice A' b.proof.length c') (.slice B' b.txs.length d'))] w (gives (.bool (sameV a b)) w) := by
  replace a1 := Lib.hid a1
  replace a2 := Lib.hid a2
  replace a3 := Lib.hid a3
  replace a4 := Lib.hid a4
  replace a5 := Lib.hid a5
  replace a6 := Lib.hid a6
  have F0 := Lib.hid (twoB_mk (c := c) (d := d) (c' := c') (d' := d') pa ta pb tb)
  have HT := Lib.hid (fun W r (h : TwoB w a b A c B d A' c' B' d' W) hr => refsame10_is B d a.txs B' d' b.txs r W ha.txs hb.txs h.ta h.tb (by have := ha.nt; omega) (by have := hb.nt; omega) hr)
  have HC := Lib.hid (fun W => neqC ha.par hb.par W)
  have HWF := Lib.hid (And.intro ha.proof hb.proof)
  have hnp := ha.np
  have e := same_parts a b
  clear ha hb pa ta pb tb
  go_enter Tryz.func35, Tryz.ntmps35
  go_upto_region 1 with fail
  refine name_world (fun w0 hw0 => ?_)
  have hA : TwoB w a b A c B d A' c' B' d' w0 := by rw [hw0]; exact F0.out
  clear hw0 F0
  obtain ⟨⟨x0, x1, x2, x3, x12, x13⟩, y0, y1, y2, y3, y12, y13⟩ := hA.cells
  obtain ⟨px, py⟩ := hA.pars
  have hbw := hA.bw
  replace a1 := a1.out
  replace a2 := a2.out
  replace a3 := a3.out
  replace a4 := a4.out
  replace a5 := a5.out
  replace a6 := a6.out
  rw [a1, a2, a3, a4, a5, a6] at e
  have E := Lib.hid e
  obtain ⟨q1, _⟩ := beq_d a1
  obtain ⟨q2, _⟩ := beq_d a2
  obtain ⟨q3, _⟩ := beq_d a3
  obtain ⟨q4, _⟩ := beq_d a4
  have HC2 : Hid (∀ W, (binOp .neq 24 (.agg (crtC a.par)) (.agg (crtC b.par))).run Tryz.prog W = .ok (.bool false) W) := Lib.hid (fun W => by rw [HC.out W, a5]; rfl)
  obtain ⟨q6, p6⟩ := len_ne a6
  clear e a1 a2 a3 a4 a5 a6 HT HC hA HWF
  go_wp2_with (first
    | (refine wpList_cells_at ?hw _ _ rfl ⟨w.heap.size, 4, none⟩ rfl (crtL a.par) _ px Tryz.underlying24 rfl crtInfo ?_
       case hw => rfl
       (try simp only [Act.put, List.setIfInBounds_toArray, List.set_cons_zero, List.set_cons_succ]))
    | (refine wpList_cells_at ?hw _ _ rfl ⟨w.heap.size + 1, 4, none⟩ rfl (crtL b.par) _ py Tryz.underlying24 rfl crtInfo ?_
       case hw => rfl
       (try simp only [Act.put, List.setIfInBounds_toArray, List.set_cons_zero, List.set_cons_succ]))
    | (refine wpList_binop ?hw _ _ _ _ _ rfl (crtC a.par) (crtC b.par) rfl rfl (by kernel_rfl) (HC2.out _) ?_
       case hw => rfl
       (try simp only [Act.put, List.setIfInBounds_toArray, List.set_cons_zero, List.set_cons_succ])))
  go_ret
  exact ⟨by rw [E.out]; rfl, hbw⟩
end Go.Proofs.YtgmejaiifibfoaaGreatDoor

/-
  Are two blocks the same: the transactions differ.
-/
set_option linter.unusedSimpArgs false
set_option linter.unusedVariables false
set_option maxRecDepth 10000
namespace Go.Proofs.YtgmejaiifibfoaaGreatDoor
open Go.RowKit Go.Lib
open L3 (Blk Reads)
open L11 (Crt zeroC crtL crtC mayV okW crtInfo crtC_ones eqlC neqC wpList_binop wpQuiet_fn)

set_option maxHeartbeats 4000000 in
set_option maxRecDepth 100000 in
theorem refsame_7 (a b : Blo) (A : Option Addr) (c : Nat) (B : Option Addr) (d : Nat) (A' : Option Addr) (c' : Nat) (B' : Option Addr) (d' : Nat) (w : World) (ha : a.wf) (hb : b.wf)
    (pa : Rd tmL 10 w A a.proof) (ta : Rd txL 7 w B a.txs) (pb : Rd tmL 10 w A' b.proof) (tb : Rd txL 7 w B' b.txs)
    (a1 : decide (a.view = b.view) = true) (a2 : decide (a.round = b.round) = true) (a3 : decide (a.height = b.height) = true) (a4 : decide (a.author = b.author) = true) (a5 : decide (a.par = b.par) = true) (a6 : decide (a.proof.length = b.proof.length) = true) (a7 : decide (a.txs = b.txs) = false) :
    Calls Tryz.prog 35 #[.agg (bloC a (.slice A a.proof.length c) (.slice B a.txs.length d)), .agg (bloC b (.slice A' b.proof.length c') (.slice B' b.txs.length d'))] w (gives (.bool (sameV a b)) w) := by
  replace a1 := Lib.hid a1
  replace a2 := Lib.hid a2
  replace a3 := Lib.hid a3
  replace a4 := Lib.hid a4
  replace a5 := Lib.hid a5
  replace a6 := Lib.hid a6
  replace a7 := Lib.hid a7
  have F0 := Lib.hid (twoB_mk (c := c) (d := d) (c' := c') (d' := d') pa ta pb tb)
  have HT := Lib.hid (fun W r (h : TwoB w a b A c B d A' c' B' d' W) hr => refsame10_is B d a.txs B' d' b.txs r W ha.txs hb.txs h.ta h.tb (by have := ha.nt; omega) (by have := hb.nt; omega) hr)
  have HC := Lib.hid (fun W => neqC ha.par hb.par W)
  have HWF := Lib.hid (And.intro ha.proof hb.proof)
  have hnp := ha.np
  have e := same_parts a b
  clear ha hb pa ta pb tb
  go_enter Tryz.func35, Tryz.ntmps35
  go_upto_region 1 with fail
  refine name_world (fun w0 hw0 => ?_)
  have hA : TwoB w a b A c B d A' c' B' d' w0 := by rw [hw0]; exact F0.out
  clear hw0 F0
  obtain ⟨⟨x0, x1, x2, x3, x12, x13⟩, y0, y1, y2, y3, y12, y13⟩ := hA.cells
  obtain ⟨px, py⟩ := hA.pars
  have hbw := hA.bw
  replace a1 := a1.out
  replace a2 := a2.out
  replace a3 := a3.out
  replace a4 := a4.out
  replace a5 := a5.out
  replace a6 := a6.out
  replace a7 := a7.out
  rw [a1, a2, a3, a4, a5, a6, a7] at e
  have E := Lib.hid e
  obtain ⟨q1, _⟩ := beq_d a1
  obtain ⟨q2, _⟩ := beq_d a2
  obtain ⟨q3, _⟩ := beq_d a3
  obtain ⟨q4, _⟩ := beq_d a4
  have HC2 : Hid (∀ W, (binOp .neq 24 (.agg (crtC a.par)) (.agg (crtC b.par))).run Tryz.prog W = .ok (.bool false) W) := Lib.hid (fun W => by rw [HC.out W, a5]; rfl)
  have hlen := of_decide_eq_true a6
  rw [← hlen] at y12
  have HLEN := Lib.hid hlen
  clear hlen
  have hT := HT.out w0 _ hA a7
  clear e a1 a2 a3 a4 a5 a6 a7 HT HC hA HWF
  go_wp2_with (first
    | (refine wpList_cells_at ?hw _ _ rfl ⟨w.heap.size, 4, none⟩ rfl (crtL a.par) _ px Tryz.underlying24 rfl crtInfo ?_
       case hw => rfl
       (try simp only [Act.put, List.setIfInBounds_toArray, List.set_cons_zero, List.set_cons_succ]))
    | (refine wpList_cells_at ?hw _ _ rfl ⟨w.heap.size + 1, 4, none⟩ rfl (crtL b.par) _ py Tryz.underlying24 rfl crtInfo ?_
       case hw => rfl
       (try simp only [Act.put, List.setIfInBounds_toArray, List.set_cons_zero, List.set_cons_succ]))
    | (refine wpList_binop ?hw _ _ _ _ _ rfl (crtC a.par) (crtC b.par) rfl rfl (by kernel_rfl) (HC2.out _) ?_
       case hw => rfl
       (try simp only [Act.put, List.setIfInBounds_toArray, List.set_cons_zero, List.set_cons_succ]))
    | (go_at_call 65; refine hT.mono ?_; unfold gives; rintro e w1 ⟨rfl, hb1⟩))
  go_ret
  exact ⟨by rw [E.out]; rfl, nxt hbw hb1⟩
end Go.Proofs.YtgmejaiifibfoaaGreatDoor

/-
  Are two blocks the same: all but the proofs are alike.
-/
set_option linter.unusedSimpArgs false
set_option linter.unusedVariables false
set_option maxRecDepth 10000
namespace Go.Proofs.YtgmejaiifibfoaaGreatDoor
open Go.RowKit Go.Lib
open L3 (Blk Reads)
open L11 (Crt zeroC crtL crtC mayV okW crtInfo crtC_ones eqlC neqC wpList_binop wpQuiet_fn)

set_option maxHeartbeats 4000000 in
set_option maxRecDepth 100000 in
theorem refsame_8 (a b : Blo) (A : Option Addr) (c : Nat) (B : Option Addr) (d : Nat) (A' : Option Addr) (c' : Nat) (B' : Option Addr) (d' : Nat) (w : World) (ha : a.wf) (hb : b.wf)
    (pa : Rd tmL 10 w A a.proof) (ta : Rd txL 7 w B a.txs) (pb : Rd tmL 10 w A' b.proof) (tb : Rd txL 7 w B' b.txs)
    (a1 : decide (a.view = b.view) = true) (a2 : decide (a.round = b.round) = true) (a3 : decide (a.height = b.height) = true) (a4 : decide (a.author = b.author) = true) (a5 : decide (a.par = b.par) = true) (a6 : decide (a.proof.length = b.proof.length) = true) (a7 : decide (a.txs = b.txs) = true) :
    Calls Tryz.prog 35 #[.agg (bloC a (.slice A a.proof.length c) (.slice B a.txs.length d)), .agg (bloC b (.slice A' b.proof.length c') (.slice B' b.txs.length d'))] w (gives (.bool (sameV a b)) w) := by
  replace a1 := Lib.hid a1
  replace a2 := Lib.hid a2
  replace a3 := Lib.hid a3
  replace a4 := Lib.hid a4
  replace a5 := Lib.hid a5
  replace a6 := Lib.hid a6
  replace a7 := Lib.hid a7
  have F0 := Lib.hid (twoB_mk (c := c) (d := d) (c' := c') (d' := d') pa ta pb tb)
  have HT := Lib.hid (fun W r (h : TwoB w a b A c B d A' c' B' d' W) hr => refsame10_is B d a.txs B' d' b.txs r W ha.txs hb.txs h.ta h.tb (by have := ha.nt; omega) (by have := hb.nt; omega) hr)
  have HC := Lib.hid (fun W => neqC ha.par hb.par W)
  have HWF := Lib.hid (And.intro ha.proof hb.proof)
  have hnp := ha.np
  have e := same_parts a b
  clear ha hb pa ta pb tb
  go_enter Tryz.func35, Tryz.ntmps35
  go_upto_region 1 with fail
  refine name_world (fun w0 hw0 => ?_)
  have hA : TwoB w a b A c B d A' c' B' d' w0 := by rw [hw0]; exact F0.out
  clear hw0 F0
  obtain ⟨⟨x0, x1, x2, x3, x12, x13⟩, y0, y1, y2, y3, y12, y13⟩ := hA.cells
  obtain ⟨px, py⟩ := hA.pars
  have hbw := hA.bw
  replace a1 := a1.out
  replace a2 := a2.out
  replace a3 := a3.out
  replace a4 := a4.out
  replace a5 := a5.out
  replace a6 := a6.out
  replace a7 := a7.out
  rw [a1, a2, a3, a4, a5, a6, a7] at e
  have E := Lib.hid e
  obtain ⟨q1, _⟩ := beq_d a1
  obtain ⟨q2, _⟩ := beq_d a2
  obtain ⟨q3, _⟩ := beq_d a3
  obtain ⟨q4, _⟩ := beq_d a4
  have HC2 : Hid (∀ W, (binOp .neq 24 (.agg (crtC a.par)) (.agg (crtC b.par))).run Tryz.prog W = .ok (.bool false) W) := Lib.hid (fun W => by rw [HC.out W, a5]; rfl)
  have hlen := of_decide_eq_true a6
  rw [← hlen] at y12
  have HLEN := Lib.hid hlen
  clear hlen
  have hT := HT.out w0 _ hA a7
  have E2 : Hid (sameV a b = decide (a.proof = b.proof)) := Lib.hid (by rw [E.out]; rfl)
  clear e E a1 a2 a3 a4 a5 a6 a7 HT HC
  go_upto_region 3 with (first
    | (refine wpList_cells_at ?hw _ _ rfl ⟨w.heap.size, 4, none⟩ rfl (crtL a.par) _ px Tryz.underlying24 rfl crtInfo ?_
       case hw => rfl
       (try simp only [Act.put, List.setIfInBounds_toArray, List.set_cons_zero, List.set_cons_succ]))
    | (refine wpList_cells_at ?hw _ _ rfl ⟨w.heap.size + 1, 4, none⟩ rfl (crtL b.par) _ py Tryz.underlying24 rfl crtInfo ?_
       case hw => rfl
       (try simp only [Act.put, List.setIfInBounds_toArray, List.set_cons_zero, List.set_cons_succ]))
    | (refine wpList_binop ?hw _ _ _ _ _ rfl (crtC a.par) (crtC b.par) rfl rfl (by kernel_rfl) (HC2.out _) ?_
       case hw => rfl
       (try simp only [Act.put, List.setIfInBounds_toArray, List.set_cons_zero, List.set_cons_succ]))
    | (go_at_call 65; refine hT.mono ?_; unfold gives; rintro e w1 ⟨rfl, hb1⟩))
  have hB := hA.below hb1
  clear hA hT HC2 x0 x1 x2 x3 x12 x13 y0 y1 y2 y3 y12 y13 px py hbw q1 q2 q3 q4 hb1
  obtain ⟨n, hn⟩ : ∃ n, n = a.proof.length := ⟨_, rfl⟩
  have HN := Lib.hid hn
  have x12 : w1.cell? ⟨w.heap.size, 12, none⟩ = some (.slice A n c) := by rw [hn]; exact hB.ba.cell 12
  rw [← hn] at hnp
  clear hn
  go_wp2
  go_loopw [5] (fun i wr => ∃ k : Nat, i = .int .i64 k ∧ k ≤ n ∧ Hid (∀ j (h1 : j < a.proof.length) (h2 : j < b.proof.length), j < k → a.proof[j] = b.proof[j]) ∧ TwoB w a b A c B d A' c' B' d' wr) (fun i _ => n - (RowKit.intOf i).toNat)
  case atStart => exact ⟨0, rfl, Nat.zero_le _, Lib.hid (fun j _ _ hj => absurd hj (by omega)), hB⟩
  case round =>
    obtain ⟨k, rfl, hk, hno, hP⟩ := hrel
    clear hB x12
    have x12 : wr.cell? ⟨w.heap.size, 12, none⟩ = some (.slice A n c) := by rw [HN.out]; exact hP.ba.cell 12
    by_cases hlt : k < n
    · have hkL : k < a.proof.length := by have := HN.out; omega
      have hkM : k < b.proof.length := by have := HLEN.out; omega
      obtain ⟨ad, rfl, hadl, hcs⟩ := hP.pa k hkL
      obtain ⟨bd, rfl, hbdl, hds⟩ := hP.pb k hkM
      have hx := HWF.out.1 _ (List.getElem_mem hkL)
      have hy := HWF.out.2 _ (List.getElem_mem hkM)
      have HA1 : Hid (∀ z : WorldIn (TwoB w a b (some ad) c B d (some bd) c' B' d'), ∀ j u, (tmL a.proof[k])[j]? = some u → z.w.cell? ((ad.add (k * 10)).add j) = some u) := Lib.hid (fun z => z.h.pa.at_ hkL)
      have HB1 : Hid (∀ z : WorldIn (TwoB w a b (some ad) c B d (some bd) c' B' d'), ∀ j u, (tmL b.proof[k])[j]? = some u → z.w.cell? ((bd.add (k * 10)).add j) = some u) := Lib.hid (fun z => z.h.pb.at_ hkM)
      obtain ⟨x, hxe⟩ : ∃ x, x = a.proof[k] := ⟨_, rfl⟩
      obtain ⟨y, hye⟩ : ∃ y, y = b.proof[k] := ⟨_, rfl⟩
      rw [← hxe] at HA1 hx
      rw [← hye] at HB1 hy
      have hne := fun W => neqT hx hy W
      have HX : Hid (∃ (h1 : k < a.proof.length) (h2 : k < b.proof.length), x = a.proof[k]'h1 ∧ y = b.proof[k]'h2) := Lib.hid ⟨hkL, hkM, hxe, hye⟩
      have g12 : ∀ z : WorldIn (TwoB w a b (some ad) c B d (some bd) c' B' d'), z.w.cell? ⟨w.heap.size, 12, none⟩ = some (.slice (some ad) n c) := fun z => by rw [HN.out]; exact z.h.ba.cell 12
      have f12 : ∀ z : WorldIn (TwoB w a b (some ad) c B d (some bd) c' B' d'), z.w.cell? ⟨w.heap.size + 1, 12, none⟩ = some (.slice (some bd) n c') := fun z => by rw [HN.out, HLEN.out]; exact z.h.bb.cell 12
      clear hxe hye hkL hkM hcs hds
      go_upto_region 6 with fail
      refine wp_region_S (TwoB w a b (some ad) c B d (some bd) c' B' d') (by kernel_rfl) (by kernel_rfl) hP.drew ?_
      have ne : Nonempty (WorldIn (TwoB w a b (some ad) c B d (some bd) c' B' d')) := ⟨⟨_, hP⟩⟩
      iterate 4 go_big_quiet_step (fail)
      refine wpQuiet_cells rfl _ _ rfl (ad.add (k * 10)) rfl (tmL x) _ HA1.out Tryz.underlying26 rfl tmInfo ?_
      conv => arg 6; simp only [Act.put, List.setIfInBounds_toArray, List.set_cons_zero, List.set_cons_succ]
      iterate 4 go_big_quiet_step (fail)
      refine wpQuiet_cells rfl _ _ rfl (bd.add (k * 10)) rfl (tmL y) _ HB1.out Tryz.underlying26 rfl tmInfo ?_
      conv => arg 6; simp only [Act.put, List.setIfInBounds_toArray, List.set_cons_zero, List.set_cons_succ]
      by_cases he : x = y
      · rw [decide_eq_true he] at hne
        have HQ := Lib.hid hne
        have HE := Lib.hid he
        clear he hne
        refine wpQuiet_binop rfl _ _ _ _ _ rfl (tmC x) (tmC y) rfl rfl (by kernel_rfl) HQ.out ?_
        conv => arg 6; simp only [Act.put, List.setIfInBounds_toArray, List.set_cons_zero, List.set_cons_succ]
        refine wpQuiet_nil ?_
        intro z
        obtain ⟨W, hW⟩ := z
        dsimp only
        go_wp2
        go_roundw
        case rel =>
          refine ⟨k + 1, by go_num, by omega, Lib.hid (fun j h1 h2 hj => ?_), hW⟩
          rcases Nat.lt_or_ge j k with h | h
          · exact hno.out j h1 h2 h
          · obtain rfl : j = k := by omega
            obtain ⟨_, _, ex, ey⟩ := HX.out
            rw [← ex, ← ey]; exact HE.out
        case measure => simp [RowKit.intOf]; omega
      · rw [decide_eq_false he] at hne
        have HQ := Lib.hid hne
        have HE : Hid (sameV a b = false) := Lib.hid (by
          obtain ⟨h1, h2, ex, ey⟩ := HX.out
          rw [E2.out, decide_eq_false (list_ne h1 h2 (by rw [← ex, ← ey]; exact he))])
        clear he hne
        refine wpQuiet_binop rfl _ _ _ _ _ rfl (tmC x) (tmC y) rfl rfl (by kernel_rfl) HQ.out ?_
        conv => arg 6; simp only [Act.put, List.setIfInBounds_toArray, List.set_cons_zero, List.set_cons_succ]
        refine wpQuiet_nil ?_
        intro z
        obtain ⟨W, hW⟩ := z
        dsimp only
        go_wp2
        go_ret
        exact ⟨by rw [HE.out]; rfl, hW.bw⟩
    · have HE : Hid (sameV a b = true) := Lib.hid (by
        rw [E2.out, decide_eq_true (list_eq HLEN.out (fun j h1 h2 => hno.out j h1 h2 (by have := HN.out; omega)))])
      have hb := hP.bw
      clear hno hP
      go_wp2_with fail
      go_ret
      exact ⟨by rw [HE.out]; rfl, hb⟩
end Go.Proofs.YtgmejaiifibfoaaGreatDoor

/-
  Are two blocks the same: whole.
-/
set_option linter.unusedSimpArgs false
set_option linter.unusedVariables false
set_option maxRecDepth 10000
namespace Go.Proofs.YtgmejaiifibfoaaGreatDoor
open Go.RowKit Go.Lib
open L3 (Blk Reads)
open L11 (Crt zeroC crtL crtC mayV okW crtInfo crtC_ones eqlC neqC wpList_binop wpQuiet_fn)

set_option maxHeartbeats 4000000 in
set_option maxRecDepth 100000 in
theorem refsame_any (a b : Blo) (A : Option Addr) (c : Nat) (B : Option Addr) (d : Nat) (A' : Option Addr) (c' : Nat) (B' : Option Addr) (d' : Nat) (w : World) (ha : a.wf) (hb : b.wf)
    (pa : Rd tmL 10 w A a.proof) (ta : Rd txL 7 w B a.txs) (pb : Rd tmL 10 w A' b.proof) (tb : Rd txL 7 w B' b.txs) :
    Calls Tryz.prog 35 #[.agg (bloC a (.slice A a.proof.length c) (.slice B a.txs.length d)), .agg (bloC b (.slice A' b.proof.length c') (.slice B' b.txs.length d'))] w (gives (.bool (sameV a b)) w) := by
  rcases seven (decide (a.view = b.view)) (decide (a.round = b.round)) (decide (a.height = b.height)) (decide (a.author = b.author)) (decide (a.par = b.par)) (decide (a.proof.length = b.proof.length)) (decide (a.txs = b.txs)) with a1 | ⟨a1, a2⟩ | ⟨a1, a2, a3⟩ | ⟨a1, a2, a3, a4⟩ | ⟨a1, a2, a3, a4, a5⟩ | ⟨a1, a2, a3, a4, a5, a6⟩ | ⟨a1, a2, a3, a4, a5, a6, a7⟩ | ⟨a1, a2, a3, a4, a5, a6, a7⟩
  · exact refsame_1 a b A c B d A' c' B' d' w ha hb pa ta pb tb a1
  · exact refsame_2 a b A c B d A' c' B' d' w ha hb pa ta pb tb a1 a2
  · exact refsame_3 a b A c B d A' c' B' d' w ha hb pa ta pb tb a1 a2 a3
  · exact refsame_4 a b A c B d A' c' B' d' w ha hb pa ta pb tb a1 a2 a3 a4
  · exact refsame_5 a b A c B d A' c' B' d' w ha hb pa ta pb tb a1 a2 a3 a4 a5
  · exact refsame_6 a b A c B d A' c' B' d' w ha hb pa ta pb tb a1 a2 a3 a4 a5 a6
  · exact refsame_7 a b A c B d A' c' B' d' w ha hb pa ta pb tb a1 a2 a3 a4 a5 a6 a7
  · exact refsame_8 a b A c B d A' c' B' d' w ha hb pa ta pb tb a1 a2 a3 a4 a5 a6 a7
end Go.Proofs.YtgmejaiifibfoaaGreatDoor
