/-
  Records and summaries added; what a roll tells.
-/
import Derived.Test.YthhjdielananeaaPut2
set_option linter.unusedSimpArgs false
set_option linter.unusedVariables false
set_option maxRecDepth 10000
namespace Go.Proofs.Ythhjdielananeaa
open Go.RowKit Go.Lib
open L3 (Blk Reads block_of_add add_of_add)
open L6 (Turn moreB fresh From In Apart)

set_option maxHeartbeats 1000000 in
set_option maxRecDepth 100000 in
theorem add_any {w : World} {U : Nat → Prop} {g gt : Nat} {r : Rl} {t : Tp} (h : Rol w U g gt r t) (hU : In w U) (A : Option Addr) (c : Nat) (l : List UInt8) (hrd : Reads w w.heap.size 1 A l.length (bcs l)) (hl : l.length ≤ maxLen)
    (hs : mayE ⟨r.next, 1, l⟩ = 0 → Small t (lineE ⟨r.next, 1, l⟩).length) (hrl : r.recs.length + 1 ≤ 10000000) :
    Calls Try.prog 29 #[.pointer (some ⟨g, 0, none⟩), .slice A l.length c] w (RolPost (.int .i64 (addE r t l)) U g gt (putR r t 1 l) (putT r t 1 l) w) := by
  have HP := Lib.hid (put_any h hU 1 ⟨by decide, by decide⟩ A c l hrd hl hs hrl)
  unfold addE
  obtain ⟨n, hn⟩ : ∃ n, n = putE r t 1 l := ⟨_, rfl⟩
  obtain ⟨p, hp⟩ : ∃ p, p = putP r t 1 l := ⟨_, rfl⟩
  obtain ⟨m, hm⟩ : ∃ m, m = l.length := ⟨_, rfl⟩
  rw [← hn, ← hp] at HP
  rw [← hm] at HP
  rw [← hn, ← hm]
  clear h hU hrd hl hs hrl hn hp hm
  go_enter Try.func29, Try.ntmps29
  go_wp2_with (first
    | (go_at_call 45; refine HP.out.mono ?_; rintro e w1 hp1; have HQ := Lib.hid hp1; obtain ⟨he, -, -⟩ := hp1; subst he)
    | go_in)
  go_ret
  exact ⟨rfl, HQ.out.2⟩
theorem Rol.shed {w : World} {U : Nat → Prop} {g gt : Nat} {r : Rl} {t : Tp} (h : Rol w U g gt r t) (p : Int) : Calls Try.prog 47 #[.pointer (some ⟨gt, 0, none⟩), .int .i64 p] w (RolPost (.int .i64 (shedE t p)) U g gt r (shedT t p) w) := by
  obtain ⟨R, T, hR, hT, iR, iT, ha, hRU, hTU⟩ := h
  exact (shed_any hT iT p).mono fun e w' hp => Rol.tape hR iR iT ha hRU hTU hp
set_option maxHeartbeats 1000000 in
set_option maxRecDepth 100000 in
theorem sum_any {w : World} {U : Nat → Prop} {g gt : Nat} {r : Rl} {t : Tp} (h : Rol w U g gt r t) (hU : In w U) (A : Option Addr) (c : Nat) (l : List UInt8) (hrd : Reads w w.heap.size 1 A l.length (bcs l)) (hl : l.length ≤ maxLen)
    (hs : mayE ⟨r.next, 2, l⟩ = 0 → Small t (lineE ⟨r.next, 2, l⟩).length) (hrl : r.recs.length + 1 ≤ 10000000) :
    Calls Try.prog 27 #[.pointer (some ⟨g, 0, none⟩), .slice A l.length c] w (RolPost (.int .i64 (sumEE r t l)) U g gt (sumR r t l) (sumT r t l) w) := by
  have HP := Lib.hid (put_any h hU 2 ⟨by decide, by decide⟩ A c l hrd hl hs hrl)
  obtain ⟨m, hm⟩ : ∃ m, m = l.length := ⟨_, rfl⟩
  rw [← hm] at HP
  rw [← hm]
  obtain ⟨n, hn⟩ : ∃ n, n = putE r t 2 l := ⟨_, rfl⟩
  rw [← hn] at HP
  by_cases h0 : n = 0
  · have e1 : sumEE r t l = shedE (putT r t 2 l) (t.stop : Nat) := by unfold sumEE; rw [← hn, if_neg (by rw [h0]; decide)]
    have e2 : sumT r t l = shedT (putT r t 2 l) (t.stop : Nat) := by unfold sumT; rw [← hn, if_neg (by rw [h0]; decide)]
    have e3 : sumR r t l = toldR (putR r t 2 l) (shedE (putT r t 2 l) (t.stop : Nat)) := by unfold sumR; rw [← hn, if_neg (by rw [h0]; decide)]
    have e4 : putP r t 2 l = (t.stop : Nat) := by unfold putP; rw [← hn, if_neg (by rw [h0]; decide)]
    rw [e1, e2, e3]
    rw [e4] at HP
    subst h0
    obtain ⟨p, hp⟩ : ∃ p : Int, p = (t.stop : Nat) := ⟨_, rfl⟩
    obtain ⟨t', ht'⟩ : ∃ t', t' = putT r t 2 l := ⟨_, rfl⟩
    obtain ⟨r', hr'⟩ : ∃ r', r' = putR r t 2 l := ⟨_, rfl⟩
    rw [← hp, ← ht', ← hr'] at HP
    rw [← hp, ← ht', ← hr']
    obtain ⟨q, hq⟩ : ∃ q, q = shedE t' p := ⟨_, rfl⟩
    have HS := Lib.hid (fun W (U' : Nat → Prop) (h : Rol W U' g gt r' t') => h.shed p)
    rw [← hq] at HS
    rw [← hq]
    clear h hU hrd hl hs hrl hn hm e1 e2 e3 e4 hp ht' hr' hq
    go_enter Try.func27, Try.ntmps27
    go_upto_region 4 with (first
      | (go_at_call 45; refine HP.out.mono ?_; rintro e w1 hp1; obtain ⟨rfl, hR1, hU1⟩ := hp1)
      | go_in)
    obtain ⟨-, -, c0, -⟩ := hR1.next_
    have HS1 := Lib.hid (HS.out _ _ hR1)
    have HU1 := Lib.hid hU1
    clear hR1 hU1 HP HS
    go_wp2_with (first
      | (go_at_call 46; refine (told_any hR2 q).mono ?_; rintro e w3 hp3; have HQ := Lib.hid hp3; obtain ⟨he, -, -⟩ := hp3; subst he)
      | (go_at_call 47; refine HS1.out.mono ?_; rintro e w2 hp2; obtain ⟨rfl, hR2, hU2⟩ := hp2)
      | go_in)
    go_ret
    exact RolPost.after HU1.out (RolPost.after hU2 HQ.out)
  · have e1 : sumEE r t l = n := by unfold sumEE; rw [← hn, if_pos h0]
    have e2 : sumT r t l = putT r t 2 l := by unfold sumT; rw [← hn, if_pos h0]
    have e3 : sumR r t l = putR r t 2 l := by unfold sumR; rw [← hn, if_pos h0]
    rw [e1, e2, e3]
    have g1 : (n == 0) = false := by rw [beq_eq_false_iff_ne]; exact h0
    have g2 : (n != 0) = true := by rw [bne_iff_ne]; exact h0
    obtain ⟨p, hp⟩ : ∃ p, p = putP r t 2 l := ⟨_, rfl⟩
    rw [← hp] at HP
    clear h hU hrd hl hs hrl hn hm e1 e2 e3 h0 hp
    go_enter Try.func27, Try.ntmps27
    go_wp2_with (first
      | (go_at_call 45; refine HP.out.mono ?_; rintro e w1 hp1; have HQ := Lib.hid hp1; obtain ⟨he, -, -⟩ := hp1; subst he)
      | go_in)
    go_ret
    exact ⟨rfl, HQ.out.2⟩

/-! What it tells -/
/-- Bytes that are handed back in new memory. -/
structure ByT (w w' : World) (A : Option Addr) (l : List UInt8) : Prop where
  rd : Reads w' w'.heap.size 1 A l.length (bcs l)
  new : ∀ ad, A = some ad → w.heap.size ≤ ad.block
  bw : Below w.heap.size w w'
set_option maxHeartbeats 1000000 in
set_option maxRecDepth 100000 in
theorem next_any {w : World} {U : Nat → Prop} {g gt : Nat} {r : Rl} {t : Tp} (h : Rol w U g gt r t) : Calls Try.prog 26 #[.pointer (some ⟨g, 0, none⟩)] w (gives (.int .i64 r.next) w) := by
  obtain ⟨c1, -, -, -⟩ := h.next_
  clear h
  go_enter Try.func26, Try.ntmps26
  go_wp2
  go_ret
  exact ⟨rfl, Below.refl _ _⟩
set_option maxHeartbeats 1000000 in
set_option maxRecDepth 100000 in
theorem summary_any {w : World} {U : Nat → Prop} {g gt : Nat} {r : Rl} {t : Tp} (h : Rol w U g gt r t) : Calls Try.prog 21 #[.pointer (some ⟨g, 0, none⟩)] w fun e w' => ∃ A c, e = .returned (.slice A r.sum.length c) ∧ ByT w w' A r.sum := by
  obtain ⟨-, -, -, c2⟩ := h.next_
  obtain ⟨c, w1, hcv, hr1, hb1⟩ := str_bytes w r.sum
  have HT := Lib.hid (⟨hr1, fun ad e => by cases e; exact Nat.le_refl _, hb1⟩ : ByT w w1 (some ⟨w.heap.size, 0, none⟩) r.sum)
  obtain ⟨s, hs⟩ : ∃ s, s = str r.sum := ⟨_, rfl⟩
  obtain ⟨n, hn⟩ : ∃ n, n = r.sum.length := ⟨_, rfl⟩
  rw [← hs] at c2 hcv
  rw [← hn] at hcv ⊢
  clear h hr1 hb1 hs hn
  go_enter Try.func21, Try.ntmps21
  go_wp2
  go_ret
  exact ⟨_, _, rfl, HT.out⟩
end Go.Proofs.Ythhjdielananeaa
