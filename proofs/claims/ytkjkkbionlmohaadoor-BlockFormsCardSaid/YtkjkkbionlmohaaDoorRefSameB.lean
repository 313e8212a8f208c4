/-
  Are two blocks the same: by the document.
-/
import Derived.Test.YtkjkkbionlmohaaDoorSameB
import Derived.Deep.CutRange
set_option linter.unusedSimpArgs false
set_option linter.unusedVariables false
set_option maxRecDepth 10000
namespace Go.Proofs.YtkjkkbionlmohaaDoor
open Go.RowKit Go.Lib
open L3 (Blk Reads)
open L11 (Crt zeroC crtL crtC mayV okW crtInfo crtC_ones eqlC neqC wpList_binop wpQuiet_fn)

theorem list_eq {α : Type} {L M : List α} (h : L.length = M.length) (he : ∀ j (h1 : j < L.length) (h2 : j < M.length), L[j] = M[j]) : L = M := List.ext_getElem h he
theorem list_ne {α : Type} {L M : List α} {j : Nat} (h1 : j < L.length) (h2 : j < M.length) (h : L[j] ≠ M[j]) : L ≠ M := fun e => by subst e; exact h rfl
set_option maxHeartbeats 2000000 in
set_option maxRecDepth 100000 in
theorem refsame10_any (A : Option Addr) (c : Nat) (L : List Txx) (B : Option Addr) (d : Nat) (M : List Txx) (w : World) (hl : ∀ t ∈ L, t.wf 1000000) (hm : ∀ t ∈ M, t.wf 1000000) (hr : Rd txL 7 w A L) (hs : Rd txL 7 w B M) (hn : L.length ≤ 100000) (hn2 : M.length ≤ 100000) :
    Calls Tryd.prog 47 #[.slice A L.length c, .slice B M.length d] w (gives (.bool (decide (L = M))) w) := by
  by_cases hlen : L.length = M.length
  case neg =>
    have e : decide (L = M) = false := decide_eq_false (fun e => hlen (by rw [e]))
    rw [e]
    obtain ⟨n, hn'⟩ : ∃ n, n = L.length := ⟨_, rfl⟩
    obtain ⟨m, hm'⟩ : ∃ m, m = M.length := ⟨_, rfl⟩
    rw [← hn', ← hm'] at hlen ⊢
    have h1 : ((n : Int) != (m : Int)) = true := by simp; omega
    have h2 : ((n : Int) == (m : Int)) = false := by simp; omega
    clear e hlen hl hm hr hs hn hn2 hn' hm'
    go_enter Tryd.func47, Tryd.ntmps47
    go_wp2
    go_ret
    exact ⟨rfl, Below.refl _ _⟩
  have HR := Lib.hid (And.intro hr hs)
  have HL := Lib.hid (And.intro hl hm)
  rw [← hlen]
  obtain ⟨n, hn'⟩ : ∃ n, n = L.length := ⟨_, rfl⟩
  rw [← hn'] at hlen hn ⊢
  obtain ⟨r, hrr⟩ : ∃ r, r = decide (L = M) := ⟨_, rfl⟩
  rw [← hrr]
  have HN := Lib.hid (And.intro hn' hlen)
  have HRR := Lib.hid hrr
  clear hr hs hl hm hn' hlen hrr hn2
  go_enter Tryd.func47, Tryd.ntmps47
  go_wp2
  go_loopw [5] (fun i wr => ∃ k : Nat, i = .int .i64 k ∧ k ≤ n ∧ Hid (∀ j (h1 : j < L.length) (h2 : j < M.length), j < k → L[j] = M[j]) ∧ Below w.heap.size w wr) (fun i _ => n - (RowKit.intOf i).toNat)
  case atStart => exact ⟨0, rfl, Nat.zero_le _, Lib.hid (fun j _ _ hj => absurd hj (by omega)), Below.refl _ _⟩
  case round =>
    obtain ⟨k, rfl, hk, hno, hbw⟩ := hrel
    by_cases hlt : k < n
    · have hkL : k < L.length := by have := HN.out.1; omega
      have hkM : k < M.length := by have := HN.out.2; omega
      obtain ⟨ad, rfl, hadl, hcs⟩ := (HR.out.1.below hbw) k hkL
      obtain ⟨bd, rfl, hbdl, hds⟩ := (HR.out.2.below hbw) k hkM
      have hx := HL.out.1 _ (List.getElem_mem hkL)
      have hy := HL.out.2 _ (List.getElem_mem hkM)
      obtain ⟨x, hxe⟩ : ∃ x, x = L[k] := ⟨_, rfl⟩
      obtain ⟨y, hye⟩ : ∃ y, y = M[k] := ⟨_, rfl⟩
      rw [← hxe] at hcs hx
      rw [← hye] at hds hy
      have hc0 : ∀ j u, (txL x)[j]? = some u → wr.cell? ((ad.add (k * 7)).add j) = some u := hcs
      have hd0 : ∀ j u, (txL y)[j]? = some u → wr.cell? ((bd.add (k * 7)).add j) = some u := hds
      have hne := fun W => neqX hx hy (by unfold maxLen; omega) W
      have HX : Hid (∃ (h1 : k < L.length) (h2 : k < M.length), x = L[k]'h1 ∧ y = M[k]'h2) := Lib.hid ⟨hkL, hkM, hxe, hye⟩
      clear hxe hye hkL hkM hcs hds
      go_upto_region 6 with fail
      refine wp_region_S (Below wr.heap.size wr) (by kernel_rfl) (by kernel_rfl) (Below.refl wr.heap.size wr).drew ?_
      have ne : Nonempty (WorldIn (Below wr.heap.size wr)) := ⟨⟨_, Below.refl wr.heap.size wr⟩⟩
      iterate 3 go_big_quiet_step (fail)
      refine wpQuiet_cells rfl _ _ rfl (ad.add (k * 7)) rfl (txL x) _ (fun z j u hj => (z.h.cell (p := (ad.add (k * 7)).add j) (L2.cell_in (hc0 j u hj))).trans (hc0 j u hj)) Tryd.underlying53 rfl txInfo ?_
      conv => arg 6; simp only [Act.put, List.setIfInBounds_toArray, List.set_cons_zero, List.set_cons_succ]
      iterate 3 go_big_quiet_step (fail)
      refine wpQuiet_cells rfl _ _ rfl (bd.add (k * 7)) rfl (txL y) _ (fun z j u hj => (z.h.cell (p := (bd.add (k * 7)).add j) (L2.cell_in (hd0 j u hj))).trans (hd0 j u hj)) Tryd.underlying53 rfl txInfo ?_
      conv => arg 6; simp only [Act.put, List.setIfInBounds_toArray, List.set_cons_zero, List.set_cons_succ]
      by_cases he : x = y
      · rw [decide_eq_true he] at hne
        have HQ := Lib.hid hne
        have HE := Lib.hid he
        clear he hne
        refine wpQuiet_binop rfl _ _ _ _ _ rfl (txC x) (txC y) rfl rfl (by kernel_rfl) HQ.out ?_
        conv => arg 6; simp only [Act.put, List.setIfInBounds_toArray, List.set_cons_zero, List.set_cons_succ]
        refine wpQuiet_nil ?_
        intro z
        obtain ⟨W, hW⟩ := z
        dsimp only
        go_wp2
        go_roundw
        case rel =>
          refine ⟨k + 1, by go_num, by omega, Lib.hid (fun j h1 h2 hj => ?_), nxt hbw hW⟩
          rcases Nat.lt_or_ge j k with h | h
          · exact hno.out j h1 h2 h
          · obtain rfl : j = k := by omega
            obtain ⟨_, _, ex, ey⟩ := HX.out
            rw [← ex, ← ey]; exact HE.out
        case measure => simp [RowKit.intOf]; omega
      · rw [decide_eq_false he] at hne
        have HQ := Lib.hid hne
        have HE : Hid (r = false) := Lib.hid (by
          obtain ⟨h1, h2, ex, ey⟩ := HX.out
          rw [HRR.out, decide_eq_false (list_ne h1 h2 (by rw [← ex, ← ey]; exact he))])
        clear he hne
        refine wpQuiet_binop rfl _ _ _ _ _ rfl (txC x) (txC y) rfl rfl (by kernel_rfl) HQ.out ?_
        conv => arg 6; simp only [Act.put, List.setIfInBounds_toArray, List.set_cons_zero, List.set_cons_succ]
        refine wpQuiet_nil ?_
        intro z
        obtain ⟨W, hW⟩ := z
        dsimp only
        go_wp2
        go_ret
        exact ⟨by rw [HE.out]; rfl, nxt hbw hW⟩
    · have HE : Hid (r = true) := Lib.hid (by
        rw [HRR.out, decide_eq_true (list_eq (HN.out.1.symm.trans HN.out.2) (fun j h1 h2 => hno.out j h1 h2 (by have := HN.out.1; omega)))])
      clear hno
      go_wp2_with fail
      go_ret
      exact ⟨by rw [HE.out]; rfl, hbw⟩
theorem refsame10_is (A : Option Addr) (c : Nat) (L : List Txx) (B : Option Addr) (d : Nat) (M : List Txx) (r : Bool) (w : World) (hl : ∀ t ∈ L, t.wf 1000000) (hm : ∀ t ∈ M, t.wf 1000000) (hr : Rd txL 7 w A L) (hs : Rd txL 7 w B M) (hn : L.length ≤ 100000) (hn2 : M.length ≤ 100000) (hd : decide (L = M) = r) :
    Calls Tryd.prog 47 #[.slice A L.length c, .slice B M.length d] w (gives (.bool r) w) := by have := refsame10_any A c L B d M w hl hm hr hs hn hn2; rw [hd] at this; exact this
end Go.Proofs.YtkjkkbionlmohaaDoor
