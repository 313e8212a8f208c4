/-
  The document's: is it one of some? Are two lists the same?
-/
import Derived.Test.YtohkjleppohinaaDoorAll
set_option linter.unusedSimpArgs false
set_option linter.unusedVariables false
set_option maxRecDepth 10000
namespace Go.Proofs.YtohkjleppohinaaDoor
open Go.RowKit Go.Lib
open L3 (Blk Reads block_of_add add_of_add)
open L6 (Turn moreB fresh From In)

theorem any_take {L : List Txx} {t : Txx} {k : Nat} (h : k < L.length) : hasX (L.take (k + 1)) t = (hasX (L.take k) t || decide (t = L[k])) := by
  unfold hasX
  rw [List.take_succ_eq_append_getElem h, List.any_append]
  simp
theorem hasX_get {L : List Txx} {t : Txx} {k : Nat} (h : k < L.length) (e : L[k] = t) : hasX L t = true := by rw [hasX_iff, ← e]; exact List.getElem_mem h
theorem neqX {n : Nat} {x y : Txx} (hx : x.wf n) (hy : y.wf n) (hn : n ≤ maxLen) (w : World) : (binOp .neq 35 (.agg (txC x)) (.agg (txC y))).run Tryd.prog w = .ok (.bool (!decide (x = y))) w := by
  simp only [binOp, Sem.run_bind, equalX hx hy hn, Result.andThen_ok, Sem.run_pure]
set_option maxHeartbeats 2000000 in
set_option maxRecDepth 100000 in
theorem refhas_any (A : Option Addr) (c : Nat) (L : List Txx) (x : Txx) (w : World) (hl : ∀ t ∈ L, t.wf 1000) (hx : x.wf 1000) (hr : Rd txL 7 w A L) (hn : L.length ≤ 1000000) :
    Calls Tryd.prog 20 #[.slice A L.length c, .agg (txC x)] w (gives (.bool (hasX L x)) w) := by
  have hb0 : Below w.heap.size w (w.alloc (.cells (txC x) 35)) := below_box _ x
  have hyb := box_new w 35 x
  have HR := Lib.hid hr
  have HL := Lib.hid hl
  obtain ⟨n, hn2⟩ : ∃ n, n = L.length := ⟨_, rfl⟩
  obtain ⟨r, hrr⟩ : ∃ r, r = hasX L x := ⟨_, rfl⟩
  rw [← hn2, ← hrr]
  rw [← hn2] at hn
  have HN := Lib.hid hn2
  have HRR := Lib.hid hrr
  clear hr hl hn2 hrr
  go_enter Tryd.func20, Tryd.ntmps20
  go_wp2
  go_loopw [5] (fun i wr => ∃ k : Nat, i = .int .i64 k ∧ k ≤ n ∧ Hid (hasX (L.take k) x = false) ∧ Below (w.alloc (.cells (txC x) 35)).heap.size (w.alloc (.cells (txC x) 35)) wr) (fun i _ => n - (RowKit.intOf i).toNat)
  case atStart => exact ⟨0, rfl, Nat.zero_le _, Lib.hid rfl, Below.refl _ _⟩
  case round =>
    obtain ⟨k, rfl, hk, hno, hbw⟩ := hrel
    have hbw2 := nxt hb0 hbw
    by_cases hlt : k < n
    · have hkL : k < L.length := by have := HN.out; omega
      obtain ⟨ad, rfl, hadl, hcs⟩ := (HR.out.below hbw2) k hkL
      have hy := HL.out _ (List.getElem_mem hkL)
      have hgx := fun e => hasX_get (t := x) hkL e
      have hat := any_take (t := x) hkL
      obtain ⟨y, hye⟩ : ∃ y, y = L[k] := ⟨_, rfl⟩
      rw [← hye] at hcs hy hgx hat
      have hyw : Blk wr w.heap.size 35 (txC x) := hyb.below hbw hyb.lt
      have hc0 : ∀ j u, (txL y)[j]? = some u → wr.cell? ((ad.add (k * 7)).add j) = some u := hcs
      have heq := fun W => eqlX hy hx (by unfold maxLen; omega) W
      have HG := Lib.hid (And.intro hgx hat)
      clear hye hkL hgx hat hcs
      go_upto_region 4 with fail
      refine wp_region_S (Below wr.heap.size wr) (by kernel_rfl) (by kernel_rfl) (Below.refl wr.heap.size wr).drew ?_
      have ne : Nonempty (WorldIn (Below wr.heap.size wr)) := ⟨⟨_, Below.refl wr.heap.size wr⟩⟩
      iterate 3 go_big_quiet_step (fail)
      refine wpQuiet_cells rfl _ _ rfl (ad.add (k * 7)) rfl (txL y) _ (fun z j u hj => (z.h.cell (p := (ad.add (k * 7)).add j) (L2.cell_in (hc0 j u hj))).trans (hc0 j u hj)) Tryd.underlying35 rfl txInfo ?_
      conv => arg 6; simp only [Act.put, List.setIfInBounds_toArray, List.set_cons_zero, List.set_cons_succ]
      refine wpQuiet_row rfl _ _ rfl w.heap.size rfl _ _ _ _ (fun z => hyw.below z.h hyw.lt) Tryd.underlying35 rfl (by kernel_rfl) ?_
      conv => arg 6; simp only [Act.put, List.setIfInBounds_toArray, List.set_cons_zero, List.set_cons_succ]
      by_cases he : y = x
      · have HE := Lib.hid (HRR.out.trans (HG.out.1 he))
        rw [decide_eq_true he] at heq
        have HQ := Lib.hid heq
        clear he heq
        refine wpQuiet_binop rfl _ _ _ _ _ rfl (txC y) (txC x) rfl rfl (by kernel_rfl) HQ.out ?_
        conv => arg 6; simp only [Act.put, List.setIfInBounds_toArray, List.set_cons_zero, List.set_cons_succ]
        refine wpQuiet_nil ?_
        intro z
        obtain ⟨W, hW⟩ := z
        dsimp only
        go_wp2
        go_ret
        exact ⟨by rw [HE.out]; rfl, nxt hbw2 hW⟩
      · have HE := Lib.hid (HG.out.2.trans (by rw [hno.out, decide_eq_false (fun e => he e.symm), Bool.or_false]))
        rw [decide_eq_false he] at heq
        have HQ := Lib.hid heq
        clear he heq
        refine wpQuiet_binop rfl _ _ _ _ _ rfl (txC y) (txC x) rfl rfl (by kernel_rfl) HQ.out ?_
        conv => arg 6; simp only [Act.put, List.setIfInBounds_toArray, List.set_cons_zero, List.set_cons_succ]
        refine wpQuiet_nil ?_
        intro z
        obtain ⟨W, hW⟩ := z
        dsimp only
        go_wp2
        go_roundw
        case rel => exact ⟨k + 1, by go_num, by omega, Lib.hid HE.out, nxtB hbw hW hbw.size⟩
        case measure => simp [RowKit.intOf]; omega
    · obtain rfl : k = n := by omega
      have HE : Hid (r = false) := Lib.hid (by rw [HRR.out, ← hno.out, HN.out, List.take_length])
      go_wp2
      go_ret
      exact ⟨by rw [HE.out]; rfl, hbw2⟩
theorem take_same {L M : List Txx} {k : Nat} (h : k < L.length) (h2 : k < M.length) (ht : L.take k = M.take k) (he : L[k] = M[k]) : L.take (k + 1) = M.take (k + 1) := by
  rw [List.take_succ_eq_append_getElem h, List.take_succ_eq_append_getElem h2, ht, he]
theorem not_same {L M : List Txx} {k : Nat} (h : k < L.length) (h2 : k < M.length) (he : L[k] ≠ M[k]) : L ≠ M := fun e => he (by subst e; rfl)
set_option maxHeartbeats 2000000 in
set_option maxRecDepth 100000 in
theorem refsame_any (A B : Option Addr) (c d : Nat) (L M : List Txx) (w : World) (hl : ∀ t ∈ L, t.wf 1000) (hm : ∀ t ∈ M, t.wf 1000) (hr : Rd txL 7 w A L) (hs : Rd txL 7 w B M) (hn : L.length ≤ 1000000) (hn2 : M.length ≤ 1000000) :
    Calls Tryd.prog 11 #[.slice A L.length c, .slice B M.length d] w (gives (.bool (decide (L = M))) w) := by
  obtain ⟨n, hnn⟩ : ∃ n, n = L.length := ⟨_, rfl⟩
  obtain ⟨m, hmm⟩ : ∃ m, m = M.length := ⟨_, rfl⟩
  obtain ⟨r, hrr⟩ : ∃ r, r = decide (L = M) := ⟨_, rfl⟩
  rw [← hnn, ← hmm, ← hrr]
  rw [← hnn] at hn
  rw [← hmm] at hn2
  by_cases hlen : n = m
  case neg =>
    have HE : Hid (r = false) := Lib.hid (by rw [hrr, decide_eq_false_iff_not]; intro e; exact hlen (by rw [hnn, hmm, e]))
    have h1 : ((n : Int) != (m : Int)) = true := by simp; omega
    clear hnn hmm hrr hr hs hl hm
    go_enter Tryd.func11, Tryd.ntmps11
    go_wp2
    go_ret
    exact ⟨by rw [HE.out]; rfl, Below.refl _ _⟩
  case pos =>
    subst hlen
    have HN := Lib.hid hnn
    have HM := Lib.hid hmm
    have HR := Lib.hid hr
    have HS := Lib.hid hs
    have HL := Lib.hid hl
    have HK := Lib.hid hm
    have HRR := Lib.hid hrr
    clear hnn hmm hrr hr hs hl hm
    go_enter Tryd.func11, Tryd.ntmps11
    go_wp2
    go_loopw [5] (fun i wr => ∃ k : Nat, i = .int .i64 k ∧ k ≤ n ∧ Hid (L.take k = M.take k) ∧ Below w.heap.size w wr) (fun i _ => n - (RowKit.intOf i).toNat)
    case atStart => exact ⟨0, rfl, Nat.zero_le _, Lib.hid rfl, Below.refl _ _⟩
    case round =>
      obtain ⟨k, rfl, hk, hno, hbw⟩ := hrel
      by_cases hlt : k < n
      · have hkL : k < L.length := by have := HN.out; omega
        have hkM : k < M.length := by have := HM.out; omega
        obtain ⟨ad, rfl, hadl, hcs⟩ := (HR.out.below hbw) k hkL
        obtain ⟨bd, rfl, hbdl, hds⟩ := (HS.out.below hbw) k hkM
        have hy := HL.out _ (List.getElem_mem hkL)
        have hz := HK.out _ (List.getElem_mem hkM)
        have hG := And.intro (fun e => take_same hkL hkM hno.out e) (fun e => not_same hkL hkM e)
        obtain ⟨y, hye⟩ : ∃ y, y = L[k] := ⟨_, rfl⟩
        obtain ⟨z, hze⟩ : ∃ z, z = M[k] := ⟨_, rfl⟩
        rw [← hye] at hcs hy hG
        rw [← hze] at hds hz hG
        have hc0 : ∀ j u, (txL y)[j]? = some u → wr.cell? ((ad.add (k * 7)).add j) = some u := hcs
        have hd0 : ∀ j u, (txL z)[j]? = some u → wr.cell? ((bd.add (k * 7)).add j) = some u := hds
        have heq := fun W => neqX hy hz (by unfold maxLen; omega) W
        have HG := Lib.hid hG
        clear hye hze hkL hkM hG hcs hds
        go_upto_region 6 with fail
        refine wp_region_S (Below wr.heap.size wr) (by kernel_rfl) (by kernel_rfl) (Below.refl wr.heap.size wr).drew ?_
        have ne : Nonempty (WorldIn (Below wr.heap.size wr)) := ⟨⟨_, Below.refl wr.heap.size wr⟩⟩
        iterate 3 go_big_quiet_step (fail)
        refine wpQuiet_cells rfl _ _ rfl (ad.add (k * 7)) rfl (txL y) _ (fun q j u hj => (q.h.cell (p := (ad.add (k * 7)).add j) (L2.cell_in (hc0 j u hj))).trans (hc0 j u hj)) Tryd.underlying35 rfl txInfo ?_
        conv => arg 6; simp only [Act.put, List.setIfInBounds_toArray, List.set_cons_zero, List.set_cons_succ]
        iterate 3 go_big_quiet_step (fail)
        refine wpQuiet_cells rfl _ _ rfl (bd.add (k * 7)) rfl (txL z) _ (fun q j u hj => (q.h.cell (p := (bd.add (k * 7)).add j) (L2.cell_in (hd0 j u hj))).trans (hd0 j u hj)) Tryd.underlying35 rfl txInfo ?_
        conv => arg 6; simp only [Act.put, List.setIfInBounds_toArray, List.set_cons_zero, List.set_cons_succ]
        by_cases he : y = z
        · have HE := Lib.hid (HG.out.1 he)
          rw [decide_eq_true he] at heq
          have HQ := Lib.hid heq
          clear he heq
          refine wpQuiet_binop rfl _ _ _ _ _ rfl (txC y) (txC z) rfl rfl (by kernel_rfl) HQ.out ?_
          conv => arg 6; simp only [Act.put, List.setIfInBounds_toArray, List.set_cons_zero, List.set_cons_succ]
          refine wpQuiet_nil ?_
          intro q
          obtain ⟨W, hW⟩ := q
          dsimp only
          go_wp2
          go_roundw
          case rel => exact ⟨k + 1, by go_num, by omega, Lib.hid HE.out, nxt hbw hW⟩
          case measure => simp [RowKit.intOf]; omega
        · have HE := Lib.hid (HRR.out.trans (decide_eq_false (HG.out.2 he)))
          rw [decide_eq_false he] at heq
          have HQ := Lib.hid heq
          clear he heq
          refine wpQuiet_binop rfl _ _ _ _ _ rfl (txC y) (txC z) rfl rfl (by kernel_rfl) HQ.out ?_
          conv => arg 6; simp only [Act.put, List.setIfInBounds_toArray, List.set_cons_zero, List.set_cons_succ]
          refine wpQuiet_nil ?_
          intro q
          obtain ⟨W, hW⟩ := q
          dsimp only
          go_wp2
          go_ret
          exact ⟨by rw [HE.out]; rfl, nxt hbw hW⟩
      · obtain rfl : k = n := by omega
        have HE : Hid (r = true) := Lib.hid (by
          have h1 := hno.out
          rw [List.take_of_length_le (by rw [← HN.out]; exact Nat.le_refl _), List.take_of_length_le (by rw [← HM.out]; exact Nat.le_refl _)] at h1
          rw [HRR.out, decide_eq_true_iff]; exact h1)
        go_wp2
        go_ret
        exact ⟨by rw [HE.out]; rfl, hbw⟩
end Go.Proofs.YtohkjleppohinaaDoor
