/-
  Who sees the same: plain facts, and a coin and a register through any calls.
-/
import Derived.Test.YtjkfogjhakcnfaaDoorRowKit
set_option linter.unusedSimpArgs false
set_option linter.unusedVariables false
namespace Go.Proofs.YtjkfogjhakcnfaaDoor
open Go.RowKit Go.Maps Go.Lib

theorem sub_cnt {n bad : Nat} (h : ∀ k ∈ bts 0 n, bad.testBit k = true) : cnt n ≤ cnt bad := by
  have e : n &&& bad = n := by
    apply Nat.eq_of_testBit_eq
    intro i
    rw [Nat.testBit_and]
    cases hi : n.testBit i with
    | false => rfl
    | true => rw [h i ((mem_bts n 0 i).2 ⟨Nat.zero_le _, by simpa using hi⟩)]; rfl
  have := cnt_and_le n bad
  rwa [e] at this
theorem cnt_pos {n : Nat} (h : cnt n = 0) : n = 0 := by
  apply Nat.eq_of_testBit_eq
  intro i
  rw [Nat.zero_testBit, ← Bool.not_eq_true]
  intro ht
  have hm := (mem_bts n 0 i).2 ⟨Nat.zero_le _, by simpa using ht⟩
  rw [← bts_length n 0] at h
  rw [List.eq_nil_of_length_eq_zero h] at hm
  cases hm
theorem newE_good {f : Int} {bad : Nat} (h : newE f bad = 0) : isF f = true ∧ (cnt bad : Int) ≤ f := by
  unfold newE at h
  by_cases h1 : checkV f bad = 0
  · rw [if_pos h1] at h
    have hle : (cnt bad : Int) ≤ f := by
      rcases Int.lt_or_le f (cnt bad : Int) with h2 | h2
      · rw [if_pos h2] at h; cases h
      · exact h2
    refine ⟨?_, hle⟩
    rcases Bool.eq_false_or_eq_true (isF f) with hf | hf
    · exact hf
    · unfold checkV at h1
      rw [if_neg (by rw [hf]; decide)] at h1
      cases h1
  · rw [if_neg h1] at h; exact absurd h h1
/-- Whose shares are enough are not all bad. -/
theorem some_good {f : Int} {bad n : Nat} {L : List Shr} {s : Stm} (hnew : newE f bad = 0) (hn : n < 4294967296) (hb : bad < 4294967296) (h : enoughE f bad L s n (f + 1) = 0) : cnt (n &&& (4294967295 - bad)) ≠ 0 := by
  intro h0
  have hz := cnt_pos h0
  have hle := (newE_good hnew).2
  have hge : f + 1 ≤ (cnt n : Int) := by
    unfold enoughE at h
    split at h
    · split at h
      · cases h
      · omega
    · rename_i h1; exact absurd h h1
  have := sub_cnt (n := n) (bad := bad) fun i hi => by
    have hi' := (mem_bts n 0 i).1 hi
    have ht : n.testBit i = true := by simpa using hi'.2
    have h1 : (n &&& (4294967295 - bad)).testBit i = false := by rw [hz]; exact Nat.zero_testBit i
    rw [Nat.testBit_and, ht, Bool.true_and] at h1
    have hi32 : i < 32 := bts_lt (k := 32) hn hi
    have h2 := Nat.testBit_two_pow_sub_succ (show bad < 2 ^ 32 by omega) i
    rw [show 2 ^ 32 - (bad + 1) = 4294967295 - bad by omega, h1] at h2
    simpa [hi32] using h2.symm
  omega
/-- Whom a seen view's coin elects no choice turns. -/
theorem who_stays {f : Int} {G : List (Int × Int)} {N : List Int} {v : Int} (u k : Int) (hG : ∀ p ∈ G, inN f p.2 = true) (hv : v ∈ N) : whoV f (chooseG f G N u k) v = whoV f G v := by
  unfold chooseG
  split
  · rename_i h0
    have hne : u ≠ v := by
      rintro rfl
      have ht : thereV G N u = true := there_iff.2 (.inr hv)
      unfold chooseE at h0
      rw [ht, if_pos rfl] at h0
      split at h0
      · split at h0 <;> cases h0
      · cases h0
    unfold whoV
    rw [chosenV_snoc fun p hp => (inN_in (hG p hp)).1, if_neg hne]
    by_cases hlt : chosenV G v < 0
    · rw [if_pos hlt, if_pos hlt, if_pos (by omega)]
    · rw [if_neg hlt, if_neg hlt]
  · rfl
theorem seen_stays {f h : Int} {bad : Nat} {L : List Shr} {N : List Int} {u v : Int} {n : Nat} (hv : v ∈ N) : v ∈ seeN f h bad L N u n := by
  unfold seeN
  split
  · exact mem_putN.2 (.inl hv)
  · exact hv
theorem seen_now {f h : Int} {bad : Nat} {L : List Shr} {N : List Int} {u : Int} {n : Nat} (he : seeE f h bad L u n = 0) : u ∈ seeN f h bad L N u n := by
  unfold seeN
  rw [if_pos he]
  exact mem_putN.2 (.inr rfl)
theorem see_enough {f h : Int} {bad : Nat} {L : List Shr} {u : Int} {n : Nat} (he : seeE f h bad L u n = 0) : h = f ∧ enoughE h bad L (coinS u) n (f + 1) = 0 := by
  unfold seeE at he
  split at he
  · split at he
    · rename_i h1; exact ⟨h1, he⟩
    · cases he
  · cases he
theorem issL_len (f : Int) (L : List Shr) (x : Shr) : (issL f L x).length ≤ L.length + 1 := by
  unfold issL
  split
  · split <;> simp
  · simp
/-- Behind so many calls: the coin and the register; who saw (sn) v's coin saw 'who'. -/
def OneR (w : World) (c g : Nat) (f : Int) (bad : Nat) (v : Int) (B : Nat) (who : Int) (sn : Bool) (U : Nat → Prop) (wr : World) : Prop :=
  ∃ G N L m, Duo w U c g f f bad G N L m wr ∧ m ≤ B ∧ L.length ≤ B ∧ (sn = true → v ∈ N ∧ who = whoV f G v)
section
variable {w wr wx : World} {U : Nat → Prop} {c g B B' : Nat} {f v who : Int} {bad : Nat} {sn : Bool}
theorem OneR.keep (o : OneR w c g f bad v B who sn U wr) (hb : Below wr.heap.size wr wx) : OneR w c g f bad v B who sn U wx := by
  obtain ⟨G, N, L, m, d, h⟩ := o
  exact ⟨G, N, L, m, d.keep hb, h⟩
theorem OneR.le (o : OneR w c g f bad v B who sn U wr) (hB : B ≤ B') : OneR w c g f bad v B' who sn U wr := by
  obtain ⟨G, N, L, m, d, h1, h2, h3⟩ := o
  exact ⟨G, N, L, m, d, by omega, by omega, h3⟩
theorem OneR.below (o : OneR w c g f bad v B who sn U wr) : Below w.heap.size w wr := by obtain ⟨G, N, L, m, d, _⟩ := o; exact d.below
theorem OneR.inU (o : OneR w c g f bad v B who sn U wr) : In wr U := by obtain ⟨G, N, L, m, d, _⟩ := o; exact d.inU
/-- What a call may leave. -/
def oneP (w : World) (c g : Nat) (f : Int) (bad : Nat) (v : Int) (B : Nat) (who : Int) (sn : Bool) (U : Nat → Prop) (wr w' : World) : Prop := OneR w c g f bad v (B + 1) who sn (moreB U wr w') w' ∧ Turn U wr w'
theorem one_choose (o : OneR w c g f bad v B who sn U wr) (hB : B ≤ 1000000000) (u k : Int) :
    Calls Tryd.prog 11 #[.pointer (some ⟨c, 0, none⟩), .int .i64 u, .int .i64 k] wr fun e w' => (∃ r, e = .returned (.int .i64 r)) ∧ oneP w c g f bad v B who sn U wr w' := by
  obtain ⟨G, N, L, m, d, h1, h2, h3⟩ := o
  have hG := d.good.2
  refine (duo_choose d (by omega) u k).mono ?_
  rintro e w' ⟨rfl, d', ht⟩
  exact ⟨⟨_, rfl⟩, ⟨_, N, L, m + 1, d', by omega, by omega, fun hs => ⟨(h3 hs).1, by rw [(h3 hs).2, who_stays u k hG (h3 hs).1]⟩⟩, ht⟩
theorem one_look (o : OneR w c g f bad v B who sn U wr) (hB : B ≤ 1000000000) (hbad : bad < 4294967296) (hT : Tab w) (u : Int) (n : Nat) (hn : n < 4294967296) :
    Calls Tryd.prog 13 #[.pointer (some ⟨c, 0, none⟩), .pointer (some ⟨g, 0, none⟩), .int .i64 u, .int .u32 n] wr fun e w' => (∃ r s, e = .returned (.tuple #[.int .i64 r, .int .i64 s])) ∧ oneP w c g f bad v B who sn U wr w' := by
  obtain ⟨G, N, L, m, d, h1, h2, h3⟩ := o
  refine (duo_see d (by omega) hbad hT u n hn).mono ?_
  rintro e w' ⟨rfl, d', ht⟩
  exact ⟨⟨_, _, rfl⟩, ⟨G, _, L, m + 1, d', by omega, by omega, fun hs => ⟨seen_stays (h3 hs).1, (h3 hs).2⟩⟩, ht⟩
theorem one_issue (o : OneR w c g f bad v B who sn U wr) (hB : B ≤ 1000000000) (x : Shr) (hx : x.wf) :
    Calls Tryd.prog 16 #[.pointer (some ⟨g, 0, none⟩), .agg (shrC x)] wr fun e w' => (∃ r, e = .returned (.int .i64 r)) ∧ oneP w c g f bad v B who sn U wr w' := by
  obtain ⟨G, N, L, m, d, h1, h2, h3⟩ := o
  refine (duo_issue d (by omega) x hx).mono ?_
  rintro e w' ⟨rfl, d', ht⟩
  exact ⟨⟨_, rfl⟩, ⟨G, N, _, m, d', by omega, by have := issL_len f L x; omega, h3⟩, ht⟩
/-- Who sees the coin of v. -/
theorem one_see (o : OneR w c g f bad v B who sn U wr) (hB : B ≤ 1000000000) (hnew : newE f bad = 0) (hbad : bad < 4294967296) (hT : Tab w) (n : Nat) (hn : n < 4294967296) :
    ∃ q r : Int, Calls Tryd.prog 13 #[.pointer (some ⟨c, 0, none⟩), .pointer (some ⟨g, 0, none⟩), .int .i64 v, .int .u32 n] wr (fun e w' => e = .returned (.tuple #[.int .i64 q, .int .i64 r]) ∧ oneP w c g f bad v B (if r = 0 then q else who) (if r = 0 then true else sn) U wr w') ∧
      (r = 0 → 0 ≤ q ∧ q < more 3 f ∧ cnt (n &&& (4294967295 - bad)) ≠ 0 ∧ (sn = true → q = who)) := by
  obtain ⟨G, N, L, m, d, h1, h2, h3⟩ := o
  have hgood := d.good
  have hw := whoV_in (f := f) (G := G) v hgood.1 hgood.2
  refine ⟨seeW f f bad L G v n, seeE f f bad L v n, (duo_see d (by omega) hbad hT v n hn).mono ?_, ?_⟩
  · rintro e w' ⟨rfl, d', ht⟩
    refine ⟨rfl, ⟨G, _, L, m + 1, d', by omega, by omega, ?_⟩, ht⟩
    by_cases he : seeE f f bad L v n = 0
    · rw [if_pos he, if_pos he]
      exact fun _ => ⟨seen_now he, by unfold seeW; rw [if_pos he]⟩
    · rw [if_neg he, if_neg he]
      exact fun hs => ⟨seen_stays (h3 hs).1, (h3 hs).2⟩
  · intro he
    have e1 : seeW f f bad L G v n = whoV f G v := by unfold seeW; rw [if_pos he]
    rw [e1]
    exact ⟨hw.1, hw.2, some_good hnew hn hbad (see_enough he).2, fun hs => (h3 hs).2.symm⟩
end
end Go.Proofs.YtjkfogjhakcnfaaDoor
