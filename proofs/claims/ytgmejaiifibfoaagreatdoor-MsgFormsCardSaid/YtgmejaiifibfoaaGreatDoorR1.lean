/-
  Texts of one layer in one: RefSameB, RefSameC.
-/
import Derived.Test.YtgmejaiifibfoaaGreatDoorB5
import Derived.Deep.CutRange

/-
  Are two blocks the same: by the document.
-/
set_option linter.unusedSimpArgs false
set_option linter.unusedVariables false
set_option maxRecDepth 10000
namespace Go.Proofs.YtgmejaiifibfoaaGreatDoor
open Go.RowKit Go.Lib
open L3 (Blk Reads)
open L11 (Crt zeroC crtL crtC mayV okW crtInfo crtC_ones eqlC neqC wpList_binop wpQuiet_fn)

theorem list_eq {α : Type} {L M : List α} (h : L.length = M.length) (he : ∀ j (h1 : j < L.length) (h2 : j < M.length), L[j] = M[j]) : L = M := List.ext_getElem h he
theorem list_ne {α : Type} {L M : List α} {j : Nat} (h1 : j < L.length) (h2 : j < M.length) (h : L[j] ≠ M[j]) : L ≠ M := fun e => by subst e; exact h rfl
set_option maxHeartbeats 2000000 in
set_option maxRecDepth 100000 in
theorem refsame10_any (A : Option Addr) (c : Nat) (L : List Txx) (B : Option Addr) (d : Nat) (M : List Txx) (w : World) (hl : ∀ t ∈ L, t.wf 1000000) (hm : ∀ t ∈ M, t.wf 1000000) (hr : Rd txL 7 w A L) (hs : Rd txL 7 w B M) (hn : L.length ≤ 100000) (hn2 : M.length ≤ 100000) :
    Calls Tryz.prog 65 #[.slice A L.length c, .slice B M.length d] w (gives (.bool (decide (L = M))) w) := by
  by_cases hlen : L.length = M.length
  case neg =>
    have e : decide (L = M) = false := decide_eq_false (fun e => hlen (by rw [e]))
    rw [e]
    obtain ⟨n, hn'⟩ : ∃ n, n = L.length := ⟨_, rfl⟩
    obtain ⟨m, hm'⟩ : ∃ m, m = M.length := ⟨_, rfl⟩
    rw [← hn', ← hm'] at hlen ⊢
    have h1 : ((n : Int) != (m : Int)) = true := by simp; omega
    have h2 : ((n : Int) == (m : Int)) = false := by simp; omega
    clear e hlen hl hm hr hs hn hn2 hn' hm'
    go_enter Tryz.func65, Tryz.ntmps65
    go_wp2
    go_ret
    exact ⟨rfl, Below.refl _ _⟩
  have HR := Lib.hid (And.intro hr hs)
  have HL := Lib.hid (And.intro hl hm)
  rw [← hlen]
  obtain ⟨n, hn'⟩ : ∃ n, n = L.length := ⟨_, rfl⟩
  rw [← hn'] at hlen hn ⊢
  obtain ⟨r, hrr⟩ : ∃ r, r = decide (L = M) := ⟨_, rfl⟩
  rw [← hrr]
  have HN := Lib.hid (And.intro hn' hlen)
  have HRR := Lib.hid hrr
  clear hr hs hl hm hn' hlen hrr hn2
  go_enter Tryz.func65, Tryz.ntmps65
  go_wp2
  go_loopw [5] (fun i wr => ∃ k : Nat, i = .int .i64 k ∧ k ≤ n ∧ Hid (∀ j (h1 : j < L.length) (h2 : j < M.length), j < k → L[j] = M[j]) ∧ Below w.heap.size w wr) (fun i _ => n - (RowKit.intOf i).toNat)
  case atStart => exact ⟨0, rfl, Nat.zero_le _, Lib.hid (fun j _ _ hj => absurd hj (by omega)), Below.refl _ _⟩
  case round =>
    obtain ⟨k, rfl, hk, hno, hbw⟩ := hrel
    by_cases hlt : k < n
    · have hkL : k < L.length := by have := HN.out.1; omega
      have hkM : k < M.length := by have := HN.out.2; omega
      obtain ⟨ad, rfl, hadl, hcs⟩ := (HR.out.1.below hbw) k hkL
      obtain ⟨bd, rfl, hbdl, hds⟩ := (HR.out.2.below hbw) k hkM
      have hx := HL.out.1 _ (List.getElem_mem hkL)
      have hy := HL.out.2 _ (List.getElem_mem hkM)
      obtain ⟨x, hxe⟩ : ∃ x, x = L[k] := ⟨_, rfl⟩
      obtain ⟨y, hye⟩ : ∃ y, y = M[k] := ⟨_, rfl⟩
      rw [← hxe] at hcs hx
      rw [← hye] at hds hy
      have hc0 : ∀ j u, (txL x)[j]? = some u → wr.cell? ((ad.add (k * 7)).add j) = some u := hcs
      have hd0 : ∀ j u, (txL y)[j]? = some u → wr.cell? ((bd.add (k * 7)).add j) = some u := hds
      have hne := fun W => neqX hx hy (by unfold maxLen; omega) W
      have HX : Hid (∃ (h1 : k < L.length) (h2 : k < M.length), x = L[k]'h1 ∧ y = M[k]'h2) := Lib.hid ⟨hkL, hkM, hxe, hye⟩
      clear hxe hye hkL hkM hcs hds
      go_upto_region 6 with fail
      refine wp_region_S (Below wr.heap.size wr) (by kernel_rfl) (by kernel_rfl) (Below.refl wr.heap.size wr).drew ?_
      have ne : Nonempty (WorldIn (Below wr.heap.size wr)) := ⟨⟨_, Below.refl wr.heap.size wr⟩⟩
      iterate 3 go_big_quiet_step (fail)
      refine wpQuiet_cells rfl _ _ rfl (ad.add (k * 7)) rfl (txL x) _ (fun z j u hj => (z.h.cell (p := (ad.add (k * 7)).add j) (L2.cell_in (hc0 j u hj))).trans (hc0 j u hj)) Tryz.underlying32 rfl txInfo ?_
      conv => arg 6; simp only [Act.put, List.setIfInBounds_toArray, List.set_cons_zero, List.set_cons_succ]
      iterate 3 go_big_quiet_step (fail)
      refine wpQuiet_cells rfl _ _ rfl (bd.add (k * 7)) rfl (txL y) _ (fun z j u hj => (z.h.cell (p := (bd.add (k * 7)).add j) (L2.cell_in (hd0 j u hj))).trans (hd0 j u hj)) Tryz.underlying32 rfl txInfo ?_
      conv => arg 6; simp only [Act.put, List.setIfInBounds_toArray, List.set_cons_zero, List.set_cons_succ]
      by_cases he : x = y
      · rw [decide_eq_true he] at hne
        have HQ := Lib.hid hne
        have HE := Lib.hid he
        clear he hne
        refine wpQuiet_binop rfl _ _ _ _ _ rfl (txC x) (txC y) rfl rfl (by kernel_rfl) HQ.out ?_
        conv => arg 6; simp only [Act.put, List.setIfInBounds_toArray, List.set_cons_zero, List.set_cons_succ]
        refine wpQuiet_nil ?_
        intro z
        obtain ⟨W, hW⟩ := z
        dsimp only
        go_wp2
        go_roundw
        case rel =>
          refine ⟨k + 1, by go_num, by omega, Lib.hid (fun j h1 h2 hj => ?_), nxt hbw hW⟩
          rcases Nat.lt_or_ge j k with h | h
          · exact hno.out j h1 h2 h
          · obtain rfl : j = k := by omega
            obtain ⟨_, _, ex, ey⟩ := HX.out
            rw [← ex, ← ey]; exact HE.out
        case measure => simp [RowKit.intOf]; omega
      · rw [decide_eq_false he] at hne
        have HQ := Lib.hid hne
        have HE : Hid (r = false) := Lib.hid (by
          obtain ⟨h1, h2, ex, ey⟩ := HX.out
          rw [HRR.out, decide_eq_false (list_ne h1 h2 (by rw [← ex, ← ey]; exact he))])
        clear he hne
        refine wpQuiet_binop rfl _ _ _ _ _ rfl (txC x) (txC y) rfl rfl (by kernel_rfl) HQ.out ?_
        conv => arg 6; simp only [Act.put, List.setIfInBounds_toArray, List.set_cons_zero, List.set_cons_succ]
        refine wpQuiet_nil ?_
        intro z
        obtain ⟨W, hW⟩ := z
        dsimp only
        go_wp2
        go_ret
        exact ⟨by rw [HE.out]; rfl, nxt hbw hW⟩
    · have HE : Hid (r = true) := Lib.hid (by
        rw [HRR.out, decide_eq_true (list_eq (HN.out.1.symm.trans HN.out.2) (fun j h1 h2 => hno.out j h1 h2 (by have := HN.out.1; omega)))])
      clear hno
      go_wp2_with fail
      go_ret
      exact ⟨by rw [HE.out]; rfl, hbw⟩
theorem refsame10_is (A : Option Addr) (c : Nat) (L : List Txx) (B : Option Addr) (d : Nat) (M : List Txx) (r : Bool) (w : World) (hl : ∀ t ∈ L, t.wf 1000000) (hm : ∀ t ∈ M, t.wf 1000000) (hr : Rd txL 7 w A L) (hs : Rd txL 7 w B M) (hn : L.length ≤ 100000) (hn2 : M.length ≤ 100000) (hd : decide (L = M) = r) :
    Calls Tryz.prog 65 #[.slice A L.length c, .slice B M.length d] w (gives (.bool r) w) := by have := refsame10_any A c L B d M w hl hm hr hs hn hn2; rw [hd] at this; exact this
end Go.Proofs.YtgmejaiifibfoaaGreatDoor

/-
  Are two blocks the same: the cases where an early field differs.
-/
set_option linter.unusedSimpArgs false
set_option linter.unusedVariables false
set_option maxRecDepth 10000
namespace Go.Proofs.YtgmejaiifibfoaaGreatDoor
open Go.RowKit Go.Lib
open L3 (Blk Reads)
open L11 (Crt zeroC crtL crtC mayV okW crtInfo crtC_ones eqlC neqC wpList_binop wpQuiet_fn)

theorem Rd.at_ {α : Type} {f : α → List Value} {k : Nat} {w : World} {ad : Addr} {L : List α} (h : Rd f k w (some ad) L) {i : Nat} (hi : i < L.length) : ∀ j u, (f L[i])[j]? = some u → w.cell? ((ad.add (i * k)).add j) = some u := fun j u hj => by
  obtain ⟨ad', e, _, hc⟩ := h i hi
  injection e with e
  subst e
  exact hc j u hj
theorem len_ne {n m : Nat} {r : Bool} (h : decide (n = m) = r) : (((n : Nat) : Int) == ((m : Nat) : Int)) = r ∧ (((n : Nat) : Int) != ((m : Nat) : Int)) = !r := by
  have e : (((n : Nat) : Int) == ((m : Nat) : Int)) = decide (n = m) := by rw [Bool.eq_iff_iff]; simp; omega
  exact ⟨e.trans h, by show (!(((n : Nat) : Int) == ((m : Nat) : Int))) = !r; rw [e, h]⟩
theorem same_parts (a b : Blo) : sameV a b = (decide (a.view = b.view) && (decide (a.round = b.round) && (decide (a.height = b.height) && (decide (a.author = b.author) && (decide (a.par = b.par) && (decide (a.proof.length = b.proof.length) && (decide (a.txs = b.txs) && decide (a.proof = b.proof)))))))) := by
  unfold sameV
  by_cases h : a.proof = b.proof
  · rw [h]; simp
  · rw [decide_eq_false h]; simp
set_option maxHeartbeats 4000000 in
set_option maxRecDepth 100000 in
theorem refsame_1 (a b : Blo) (A : Option Addr) (c : Nat) (B : Option Addr) (d : Nat) (A' : Option Addr) (c' : Nat) (B' : Option Addr) (d' : Nat) (w : World) (ha : a.wf) (hb : b.wf)
    (pa : Rd tmL 10 w A a.proof) (ta : Rd txL 7 w B a.txs) (pb : Rd tmL 10 w A' b.proof) (tb : Rd txL 7 w B' b.txs)
    (a1 : decide (a.view = b.view) = false) :
    Calls Tryz.prog 35 #[.agg (bloC a (.slice A a.proof.length c) (.slice B a.txs.length d)), .agg (bloC b (.slice A' b.proof.length c') (.slice B' b.txs.length d'))] w (gives (.bool (sameV a b)) w) := by
  replace a1 := Lib.hid a1
  have F0 := Lib.hid (twoB_mk (c := c) (d := d) (c' := c') (d' := d') pa ta pb tb)
  have HT := Lib.hid (fun W r (h : TwoB w a b A c B d A' c' B' d' W) hr => refsame10_is B d a.txs B' d' b.txs r W ha.txs hb.txs h.ta h.tb (by have := ha.nt; omega) (by have := hb.nt; omega) hr)
  have HC := Lib.hid (fun W => neqC ha.par hb.par W)
  have HWF := Lib.hid (And.intro ha.proof hb.proof)
  have hnp := ha.np
  have e := same_parts a b
  clear ha hb pa ta pb tb
  go_enter Tryz.func35, Tryz.ntmps35
  go_upto_region 1 with fail
  refine name_world (fun w0 hw0 => ?_)
  have hA : TwoB w a b A c B d A' c' B' d' w0 := by rw [hw0]; exact F0.out
  clear hw0 F0
  obtain ⟨⟨x0, x1, x2, x3, x12, x13⟩, y0, y1, y2, y3, y12, y13⟩ := hA.cells
  obtain ⟨px, py⟩ := hA.pars
  have hbw := hA.bw
  replace a1 := a1.out
  rw [a1] at e
  have E := Lib.hid e
  obtain ⟨q1, _⟩ := beq_d a1
  clear e a1 HT HC hA HWF
  go_wp2
  go_ret
  exact ⟨by rw [E.out]; rfl, hbw⟩
set_option maxHeartbeats 4000000 in
set_option maxRecDepth 100000 in
theorem refsame_2 (a b : Blo) (A : Option Addr) (c : Nat) (B : Option Addr) (d : Nat) (A' : Option Addr) (c' : Nat) (B' : Option Addr) (d' : Nat) (w : World) (ha : a.wf) (hb : b.wf)
    (pa : Rd tmL 10 w A a.proof) (ta : Rd txL 7 w B a.txs) (pb : Rd tmL 10 w A' b.proof) (tb : Rd txL 7 w B' b.txs)
    (a1 : decide (a.view = b.view) = true) (a2 : decide (a.round = b.round) = false) :
    Calls Tryz.prog 35 #[.agg (bloC a (.slice A a.proof.length c) (.slice B a.txs.length d)), .agg (bloC b (.slice A' b.proof.length c') (.slice B' b.txs.length d'))] w (gives (.bool (sameV a b)) w) := by
  replace a1 := Lib.hid a1
  replace a2 := Lib.hid a2
  have F0 := Lib.hid (twoB_mk (c := c) (d := d) (c' := c') (d' := d') pa ta pb tb)
  have HT := Lib.hid (fun W r (h : TwoB w a b A c B d A' c' B' d' W) hr => refsame10_is B d a.txs B' d' b.txs r W ha.txs hb.txs h.ta h.tb (by have := ha.nt; omega) (by have := hb.nt; omega) hr)
  have HC := Lib.hid (fun W => neqC ha.par hb.par W)
  have HWF := Lib.hid (And.intro ha.proof hb.proof)
  have hnp := ha.np
  have e := same_parts a b
  clear ha hb pa ta pb tb
  go_enter Tryz.func35, Tryz.ntmps35
  go_upto_region 1 with fail
  refine name_world (fun w0 hw0 => ?_)
  have hA : TwoB w a b A c B d A' c' B' d' w0 := by rw [hw0]; exact F0.out
  clear hw0 F0
  obtain ⟨⟨x0, x1, x2, x3, x12, x13⟩, y0, y1, y2, y3, y12, y13⟩ := hA.cells
  obtain ⟨px, py⟩ := hA.pars
  have hbw := hA.bw
  replace a1 := a1.out
  replace a2 := a2.out
  rw [a1, a2] at e
  have E := Lib.hid e
  obtain ⟨q1, _⟩ := beq_d a1
  obtain ⟨q2, _⟩ := beq_d a2
  clear e a1 a2 HT HC hA HWF
  go_wp2
  go_ret
  exact ⟨by rw [E.out]; rfl, hbw⟩
set_option maxHeartbeats 4000000 in
set_option maxRecDepth 100000 in
theorem refsame_3 (a b : Blo) (A : Option Addr) (c : Nat) (B : Option Addr) (d : Nat) (A' : Option Addr) (c' : Nat) (B' : Option Addr) (d' : Nat) (w : World) (ha : a.wf) (hb : b.wf)
    (pa : Rd tmL 10 w A a.proof) (ta : Rd txL 7 w B a.txs) (pb : Rd tmL 10 w A' b.proof) (tb : Rd txL 7 w B' b.txs)
    (a1 : decide (a.view = b.view) = true) (a2 : decide (a.round = b.round) = true) (a3 : decide (a.height = b.height) = false) :
    Calls Tryz.prog 35 #[.agg (bloC a (.slice A a.proof.length c) (.slice B a.txs.length d)), .agg (bloC b (.slice A' b.proof.length c') (.slice B' b.txs.length d'))] w (gives (.bool (sameV a b)) w) := by
  replace a1 := Lib.hid a1
  replace a2 := Lib.hid a2
  replace a3 := Lib.hid a3
  have F0 := Lib.hid (twoB_mk (c := c) (d := d) (c' := c') (d' := d') pa ta pb tb)
  have HT := Lib.hid (fun W r (h : TwoB w a b A c B d A' c' B' d' W) hr => refsame10_is B d a.txs B' d' b.txs r W ha.txs hb.txs h.ta h.tb (by have := ha.nt; omega) (by have := hb.nt; omega) hr)
  have HC := Lib.hid (fun W => neqC ha.par hb.par W)
  have HWF := Lib.hid (And.intro ha.proof hb.proof)
  have hnp := ha.np
  have e := same_parts a b
  clear ha hb pa ta pb tb
  go_enter Tryz.func35, Tryz.ntmps35
  go_upto_region 1 with fail
  refine name_world (fun w0 hw0 => ?_)
  have hA : TwoB w a b A c B d A' c' B' d' w0 := by rw [hw0]; exact F0.out
  clear hw0 F0
  obtain ⟨⟨x0, x1, x2, x3, x12, x13⟩, y0, y1, y2, y3, y12, y13⟩ := hA.cells
  obtain ⟨px, py⟩ := hA.pars
  have hbw := hA.bw
  replace a1 := a1.out
  replace a2 := a2.out
  replace a3 := a3.out
  rw [a1, a2, a3] at e
  have E := Lib.hid e
  obtain ⟨q1, _⟩ := beq_d a1
  obtain ⟨q2, _⟩ := beq_d a2
  obtain ⟨q3, _⟩ := beq_d a3
  clear e a1 a2 a3 HT HC hA HWF
  go_wp2
  go_ret
  exact ⟨by rw [E.out]; rfl, hbw⟩
set_option maxHeartbeats 4000000 in
set_option maxRecDepth 100000 in
theorem refsame_4 (a b : Blo) (A : Option Addr) (c : Nat) (B : Option Addr) (d : Nat) (A' : Option Addr) (c' : Nat) (B' : Option Addr) (d' : Nat) (w : World) (ha : a.wf) (hb : b.wf)
    (pa : Rd tmL 10 w A a.proof) (ta : Rd txL 7 w B a.txs) (pb : Rd tmL 10 w A' b.proof) (tb : Rd txL 7 w B' b.txs)
    (a1 : decide (a.view = b.view) = true) (a2 : decide (a.round = b.round) = true) (a3 : decide (a.height = b.height) = true) (a4 : decide (a.author = b.author) = false) :
    Calls Tryz.prog 35 #[.agg (bloC a (.slice A a.proof.length c) (.slice B a.txs.length d)), .agg (bloC b (.slice A' b.proof.length c') (.slice B' b.txs.length d'))] w (gives (.bool (sameV a b)) w) := by
  replace a1 := Lib.hid a1
  replace a2 := Lib.hid a2
  replace a3 := Lib.hid a3
  replace a4 := Lib.hid a4
  have F0 := Lib.hid (twoB_mk (c := c) (d := d) (c' := c') (d' := d') pa ta pb tb)
  have HT := Lib.hid (fun W r (h : TwoB w a b A c B d A' c' B' d' W) hr => refsame10_is B d a.txs B' d' b.txs r W ha.txs hb.txs h.ta h.tb (by have := ha.nt; omega) (by have := hb.nt; omega) hr)
  have HC := Lib.hid (fun W => neqC ha.par hb.par W)
  have HWF := Lib.hid (And.intro ha.proof hb.proof)
  have hnp := ha.np
  have e := same_parts a b
  clear ha hb pa ta pb tb
  go_enter Tryz.func35, Tryz.ntmps35
  go_upto_region 1 with fail
  refine name_world (fun w0 hw0 => ?_)
  have hA : TwoB w a b A c B d A' c' B' d' w0 := by rw [hw0]; exact F0.out
  clear hw0 F0
  obtain ⟨⟨x0, x1, x2, x3, x12, x13⟩, y0, y1, y2, y3, y12, y13⟩ := hA.cells
  obtain ⟨px, py⟩ := hA.pars
  have hbw := hA.bw
  replace a1 := a1.out
  replace a2 := a2.out
  replace a3 := a3.out
  replace a4 := a4.out
  rw [a1, a2, a3, a4] at e
  have E := Lib.hid e
  obtain ⟨q1, _⟩ := beq_d a1
  obtain ⟨q2, _⟩ := beq_d a2
  obtain ⟨q3, _⟩ := beq_d a3
  obtain ⟨q4, _⟩ := beq_d a4
  clear e a1 a2 a3 a4 HT HC hA HWF
  go_wp2
  go_ret
  exact ⟨by rw [E.out]; rfl, hbw⟩
end Go.Proofs.YtgmejaiifibfoaaGreatDoor
