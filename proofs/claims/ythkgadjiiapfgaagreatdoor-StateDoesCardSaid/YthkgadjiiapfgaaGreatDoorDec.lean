/-
  The first rune of what begins with a letter, and that asking for it takes nothing off the tape that was put there: for the order of names.
-/
import Derived.Test.YthkgadjiiapfgaaGreatDoorL2
import Derived.Test.YthkgadjiiapfgaaGreatDoorMaps
set_option linter.unusedSimpArgs false
set_option linter.unusedVariables false
set_option maxRecDepth 10000
namespace Go.Proofs.YthkgadjiiapfgaaGreatDoor
open Go.RowKit Go.Lib Go.Shelf
open L2 (dec nums runes chk ltr Tab)

/-- Nothing that was there has turned, and the tape stands no nearer to its beginning. -/
def BelD (w w' : World) : Prop := Below w.heap.size w w' ∧ w.drawn ≤ w'.drawn
theorem BelD.refl (w : World) : BelD w w := ⟨Below.refl _ _, Nat.le_refl _⟩
theorem BelD.trans {a b c : World} (h : BelD a b) (k : BelD b c) : BelD a c := ⟨nxt h.1 k.1, Nat.le_trans h.2 k.2⟩
theorem BelD.alloc {a b : World} (h : BelD a b) (o : Obj) : BelD a (b.alloc o) := ⟨h.1.alloc h.1.size _, h.2⟩
/-- The leading byte of a letter. -/
theorem lead {l : List UInt8} (hne : l ≠ []) (hl : (dec l).1 < 2048) : (l.getD 0 0).toNat < 128 ∨ (194 ≤ (l.getD 0 0).toNat ∧ (l.getD 0 0).toNat < 224 ∧ 2 ≤ l.length) := by
  have h0 := L2.byte_lt l 0
  have h1 := L2.byte_lt l 1
  unfold dec at hl
  obtain ⟨b0, e0⟩ : ∃ b, b = (l.getD 0 0).toNat := ⟨_, rfl⟩
  obtain ⟨b1, e1⟩ : ∃ b, b = (l.getD 1 0).toNat := ⟨_, rfl⟩
  obtain ⟨b2, e2⟩ : ∃ b, b = (l.getD 2 0).toNat := ⟨_, rfl⟩
  obtain ⟨b3, e3⟩ : ∃ b, b = (l.getD 3 0).toNat := ⟨_, rfl⟩
  rw [← e0] at h0 ⊢
  rw [← e1] at h1
  rw [← e0, ← e1, ← e2, ← e3] at hl
  generalize l.length = n at *
  by_cases c0 : b0 < 128
  · exact .inl c0
  by_cases c1 : b0 / 32 = 6
  · obtain ⟨g, ng⟩ := L2.dN2 n b0 b1 b2 b3 c1
    by_cases hg : L2.good2 n b0 b1
    · right
      unfold L2.good2 at hg
      omega
    · rw [ng hg] at hl; exact absurd hl (by decide)
  by_cases c2 : b0 / 16 = 14
  · obtain ⟨g, ng⟩ := L2.dN3 n b0 b1 b2 b3 c2
    by_cases hg : L2.good3 n b0 b1 b2
    · rw [g hg] at hl
      unfold L2.good3 at hg
      have := hg.2.1
      dsimp only at hl
      omega
    · rw [ng hg] at hl; exact absurd hl (by decide)
  by_cases c3 : b0 / 8 = 30
  · obtain ⟨g, ng⟩ := L2.dN4 n b0 b1 b2 b3 c3
    by_cases hg : L2.good4 n b0 b1 b2 b3
    · rw [g hg] at hl
      unfold L2.good4 at hg
      have := hg.2.1
      dsimp only at hl
      omega
    · rw [ng hg] at hl; exact absurd hl (by decide)
  · rw [L2.dN0 n b0 b1 b2 b3 c0 c1 c2 c3] at hl; exact absurd hl (by decide)
set_option maxHeartbeats 4000000 in
set_option maxRecDepth 1000000 in
theorem slow_two (s : ByteArray) (w : World) (hT : Tab w) (hn2 : 2 ≤ s.size) (hX : firstT (s.get! 0).toNat = 2) :
    Calls Tryz.prog 93 #[.string s] w fun e w' => e = .returned (.tuple #[.int .i32 (Lib.decodeGo s).1, .int .i64 (Lib.decodeGo s).2]) ∧ BelD w w' := by
  have hz0 : (0 : Int) < (s.size : Int) := by omega
  have hz0' : ¬ ((s.size : Int) < 1) := by omega
  have h0 : ¬ s.size = 0 := by omega
  obtain ⟨x0, hx0⟩ : ∃ x0, s.get! 0 = x0 := ⟨_, rfl⟩
  obtain ⟨x1, hx1⟩ : ∃ x1, s.get! 1 = x1 := ⟨_, rfl⟩
  obtain ⟨x2, hx2⟩ : ∃ x2, s.get! 2 = x2 := ⟨_, rfl⟩
  obtain ⟨x3, hx3⟩ : ∃ x3, s.get! 3 = x3 := ⟨_, rfl⟩
  have hs0 : s[0]'(by omega) = x0 := by rw [← hx0]; exact (Utf8W.get!_of_lt s 0 (by omega)).symm
  have l0 := x0.toNat_lt; have l1 := x1.toNat_lt; have l2 := x2.toNat_lt; have l3 := x3.toNat_lt
  have hdec : Lib.decodeGo s = decodeN s.size x0.toNat x1.toNat x2.toNat x3.toNat := by
    simp only [Lib.decodeGo, h0, if_false]
    rw [Lib.decode_at, Nat.sub_zero, Nat.zero_add, Nat.zero_add, Nat.zero_add, hx0, hx1, hx2, hx3]
  rw [hx0] at hX
  rw [hdec]
  clear hdec
  have hc0 := hT.1 x0.toNat (by omega)
  have hres : firstT x0.toNat < 240 → decodeN s.size x0.toNat x1.toNat x2.toNat x3.toNat = slowN s.size x0.toNat x1.toNat x2.toNat x3.toNat (firstT x0.toNat % 8) (accLo (firstT x0.toNat / 16)) (accHi (firstT x0.toNat / 16)) :=
    fun h => (Lib.slow_eq _ _ _ _ _ (by omega) (by omega) (by omega) (by omega) h).symm
  replace hres := hres (by omega)
  rw [hX] at hc0 hres
  have ha0 := (hT.2 0 (by omega)).1
  have ha1 := (hT.2 0 (by omega)).2
  simp only [accLo, accHi, Nat.reduceMul, Nat.reduceAdd, Nat.reduceEqDiff, if_true, if_false, Nat.reduceMod, Nat.reduceDiv] at ha0 ha1 hres
  rw [hres]
  clear hres hT hX
  have hz1 : (1 : Int) < (s.size : Int) := by omega
  have hs1 : s[1]'(by omega) = x1 := by rw [← hx1]; exact (Utf8W.get!_of_lt s 1 (by omega)).symm
  go_enter Tryz.func93, Tryz.ntmps93
  go_wp2
  all_goals (go_ret2; refine ⟨?_, (BelD.refl w).alloc _⟩; utf8_leaf)
set_option maxHeartbeats 1000000 in
set_option maxRecDepth 1000000 in
theorem decode_d (s : ByteArray) (w : World) (hT : Tab w) (h : 0 < s.size) (hl : (dec s.data.toList).1 < 2048) :
    Calls Tryz.prog 75 #[.string s] w fun e w' => e = .returned (.tuple #[.int .i32 ((dec s.data.toList).1 : Int), .int .i64 ((dec s.data.toList).2 : Int)]) ∧ BelD w w' := by
  have hd : Lib.decodeGo s = dec s.data.toList := by
    unfold Lib.decodeGo
    rw [if_neg (by omega), L2.dec_at, List.drop_zero]
  have hne : s.toList.isEmpty = false := (L2.full_facts h).1
  have hz0 : (0 : Int) < (s.size : Int) := by omega
  obtain ⟨x0, hx0⟩ : ∃ x0, s.get! 0 = x0 := ⟨_, rfl⟩
  have hs0 : s[0]'(by omega) = x0 := by rw [← hx0]; exact (Utf8W.get!_of_lt s 0 (by omega)).symm
  have e0 : (s.data.toList.getD 0 0) = x0 := by
    rw [← hs0]
    have hsz : 0 < s.data.toList.length := by rw [← L2.size_len]; exact h
    rw [List.getD_eq_getElem?_getD, List.getElem?_eq_getElem hsz]
    rfl
  rcases lead (L2.ne_nil h) hl with ha | ⟨ha, hb, hc⟩
  · rw [e0] at ha
    have haz : (x0.toNat : Int) < 128 := by omega
    have hr : dec s.data.toList = (x0.toNat, 1) := by
      unfold dec
      rw [L2.dN1 _ _ _ _ _ (by rw [e0]; exact ha), e0]
    rw [hr]
    clear hd hr e0 hl
    go_enter Tryz.func75, Tryz.ntmps75
    go_wp2
    go_ret2
    exact ⟨rfl, BelD.refl _⟩
  · rw [e0] at ha hb
    have hX : firstT (s.get! 0).toNat = 2 := by
      rw [hx0]; unfold firstT
      rw [if_neg (by omega), if_neg (by omega), if_pos (by omega)]
    have cS := slow_two s w hT (by rw [L2.size_len]; exact hc) hX
    rw [hd] at cS
    obtain ⟨R, hR⟩ : ∃ R, (dec s.data.toList).1 = R := ⟨_, rfl⟩
    obtain ⟨K, hK⟩ : ∃ K, (dec s.data.toList).2 = K := ⟨_, rfl⟩
    rw [hR, hK] at cS ⊢
    have haz : ¬ ((x0.toNat : Int) < 128) := by omega
    clear hd e0 hl hR hK hX
    go_enter Tryz.func75, Tryz.ntmps75
    go_wp2_with (go_at_call 93; refine cS.mono ?_; rintro e w' ⟨rfl, hb⟩)
    go_ret2
    exact ⟨rfl, hb⟩
end Go.Proofs.YthkgadjiiapfgaaGreatDoor
