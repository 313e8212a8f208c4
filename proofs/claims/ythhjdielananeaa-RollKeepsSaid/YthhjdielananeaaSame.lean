/-
  Two lists of bytes, compared.
-/
import Derived.Test.YthhjdielananeaaRec
set_option linter.unusedSimpArgs false
set_option linter.unusedVariables false
set_option maxRecDepth 10000
namespace Go.Proofs.Ythhjdielananeaa
open Go.RowKit Go.Lib
open L3 (Blk Reads block_of_add add_of_add)
open L6 (Turn moreB fresh From In Apart)

/-- In w a slice of bytes' slices, in blocks of P. -/
def RcP (w : World) (P : Nat → Prop) (A : Option Addr) (L : List (List UInt8)) : Prop :=
  ∀ i b, L[i]? = some b → ∃ ad Ai ci, A = some ad ∧ P ad.block ∧ w.cell? (ad.add i) = some (.slice Ai b.length ci) ∧ Reads w w.heap.size 1 Ai b.length (bcs b) ∧ (0 < b.length → ∀ a, Ai = some a → P a.block)
theorem RcP.turn {w w' : World} {P : Nat → Prop} {A : Option Addr} {L : List (List UInt8)} {U : Nat → Prop} (h : RcP w P A L) (ht : Turn U w w') (hU : ∀ k, P k → ¬ U k) : RcP w' P A L := by
  intro i b hi
  obtain ⟨ad, Ai, ci, e, h1, h3, h4, h5⟩ := h i b hi
  exact ⟨ad, Ai, ci, e, h1, ht.cell h3 (by rw [block_of_add]; exact hU _ h1), reads_kept h4 ht ht.size (fun h0 a ea => hU _ (h5 h0 a ea)), h5⟩
theorem RcP.below {w w' : World} {P : Nat → Prop} {A : Option Addr} {L : List (List UInt8)} (h : RcP w P A L) (hb : Below w.heap.size w w') : RcP w' P A L := h.turn (U := fun _ => False) (L6.Turn.of_keep hb) (fun _ _ h => h.elim)
theorem RcP.mono {w : World} {P P' : Nat → Prop} {A : Option Addr} {L : List (List UInt8)} (h : RcP w P A L) (hp : ∀ k, P k → P' k) : RcP w P' A L := by
  intro i b hi
  obtain ⟨ad, Ai, ci, e, h1, h3, h4, h5⟩ := h i b hi
  exact ⟨ad, Ai, ci, e, hp _ h1, h3, h4, fun h0 a ea => hp _ (h5 h0 a ea)⟩
theorem RcR.p {w w' : World} {A : Option Addr} {L : List (List UInt8)} (h : RcR w' w.heap.size A L) : RcP w' (fresh w w') A L := by
  intro i b hi
  obtain ⟨ad, Ai, ci, e, h1, h2, h3, h4, h5⟩ := h i b hi
  refine ⟨ad, Ai, ci, e, ⟨h2, h1⟩, h3, h4, fun h0 a ea => ⟨h5 h0 a ea, ?_⟩⟩
  obtain ⟨ad', e', hlt, _⟩ := h4.2 h0
  rw [ea] at e'
  injection e' with e'
  subst e'
  exact hlt
/-- What a round reads. -/
structure SmH (p q : Addr) (Ai Bi : Option Addr) (ci di : Nat) (a b : List UInt8) (W : World) : Prop where
  c1 : W.cell? p = some (.slice Ai a.length ci)
  c2 : W.cell? q = some (.slice Bi b.length di)
  r1 : Reads W W.heap.size 1 Ai a.length (bcs a)
  r2 : Reads W W.heap.size 1 Bi b.length (bcs b)
theorem conv_all {W : World} {A : Option Addr} {c : Nat} {l : List UInt8} (h : Reads W W.heap.size 1 A l.length (bcs l)) : (convert 53 9 (.slice A l.length c)).run Try.prog W = .ok (.string (str l)) W := by
  have := conv_reads (c := c) h (Nat.le_refl _)
  rw [List.take_length] at this
  exact this
def SamePost (L M : List (List UInt8)) (w : World) (e : Ending) (w' : World) : Prop := ∃ b, e = .returned (.bool b) ∧ (L = M → b = true) ∧ Below w.heap.size w w'
set_option maxHeartbeats 4000000 in
set_option maxRecDepth 100000 in
theorem same_any {w : World} {P Q : Nat → Prop} {A B : Option Addr} {L M : List (List UInt8)} (hA : RcP w P A L) (hB : RcP w Q B M) (c d : Nat) (hl : L.length ≤ 100000000) (hm : M.length ≤ 100000000) :
    Calls Try.prog 25 #[.slice A L.length c, .slice B M.length d] w (SamePost L M w) := by
  have HA := Lib.hid hA
  have HB := Lib.hid hB
  obtain ⟨n, hn⟩ : ∃ n, n = L.length := ⟨_, rfl⟩
  obtain ⟨m, hmm⟩ : ∃ m, m = M.length := ⟨_, rfl⟩
  have HN := Lib.hid (And.intro hn hmm)
  rw [← hn] at hl ⊢
  rw [← hmm] at hm ⊢
  clear hA hB hn hmm
  by_cases hnm : n = m
  · subst hnm
    have hnq : ((n : Int) != n) = false := by simp
    go_enter Try.func25, Try.ntmps25
    go_wp2
    go_loopw [5] (fun i wr => ∃ k : Nat, i = .int .i64 k ∧ k ≤ n ∧ Below w.heap.size w wr) (fun i _ => n - (RowKit.intOf i).toNat)
    case atStart => exact ⟨0, rfl, Nat.zero_le _, Below.refl _ _⟩
    case round =>
      obtain ⟨k, rfl, hk, hbw⟩ := hrel
      by_cases hlt : k < n
      · have k1 : k < L.length := by have := HN.out.1; omega
        have k2 : k < M.length := by have := HN.out.2; omega
        have hA1 := (HA.out.below hbw) k L[k] (List.getElem?_eq_getElem k1)
        have hB1 := (HB.out.below hbw) k M[k] (List.getElem?_eq_getElem k2)
        have HLM := Lib.hid (show L = M → L[k] = M[k] from fun e => by subst e; rfl)
        obtain ⟨a, ha⟩ : ∃ a, a = L[k] := ⟨_, rfl⟩
        obtain ⟨b, hb⟩ : ∃ b, b = M[k] := ⟨_, rfl⟩
        rw [← ha] at hA1 HLM
        rw [← hb] at hB1 HLM
        obtain ⟨p, Ai, ci, hp, -, c1, r1, -⟩ := hA1
        obtain ⟨q, Bi, di, hq, -, c2, r2, -⟩ := hB1
        have hH : SmH (p.add k) (q.add k) Ai Bi ci di a b wr.drew := ⟨c1, c2, r1, r2⟩
        have HD := Lib.hid hbw.drew
        have HC1 := Lib.hid (fun W (h : SmH (p.add k) (q.add k) Ai Bi ci di a b W) => conv_all (c := ci) h.r1)
        have HC2 := Lib.hid (fun W (h : SmH (p.add k) (q.add k) Ai Bi ci di a b W) => conv_all (c := di) h.r2)
        have HG1 := Lib.hid (fun W (h : SmH (p.add k) (q.add k) Ai Bi ci di a b W) => h.c1)
        have HG2 := Lib.hid (fun W (h : SmH (p.add k) (q.add k) Ai Bi ci di a b W) => h.c2)
        obtain ⟨S, hS⟩ : ∃ S, S = SmH (p.add k) (q.add k) Ai Bi ci di a b := ⟨_, rfl⟩
        rw [← hS] at hH HC1 HC2 HG1 HG2
        obtain ⟨x, hx⟩ : ∃ x, x = str a := ⟨_, rfl⟩
        obtain ⟨y, hy⟩ : ∃ y, y = str b := ⟨_, rfl⟩
        obtain ⟨u, hu⟩ : ∃ u, u = a.length := ⟨_, rfl⟩
        obtain ⟨v, hv⟩ : ∃ v, v = b.length := ⟨_, rfl⟩
        have HXY := Lib.hid (show L = M → x = y from fun e => by rw [hx, hy, HLM.out e])
        rw [← hx, ← hu] at HC1
        rw [← hy, ← hv] at HC2
        rw [← hu] at HG1
        rw [← hv] at HG2
        subst hp
        subst hq
        clear c1 c2 r1 r2 ha hb hx hy hu hv hS k1 k2 HLM
        cases hxq : (x.toList == y.toList)
        · go_upto_region 6 with fail
          refine wp_region_K S [0, 1, 2, 3, 4, 5, 6, 7, 8, 9, 10] (by kernel_rfl) ?_
          refine wpK_quiet (f := 0) (by kernel_rfl) (fun _ x _ _ _ h => by cases x <;> exact h) hH [0, 1, 2, 3, 4, 5, 6, 7, 8, 9, 10] _ _ (by kernel_rfl) (by kernel_rfl) (by kernel_rfl) ?_
          have ne : Nonempty (WorldIn S) := ⟨⟨_, hH⟩⟩
          have g1 : ∀ y : WorldIn S, y.w.cell? (p.add k) = some (.slice Ai u ci) := fun y => HG1.out _ y.h
          have g2 : ∀ y : WorldIn S, y.w.cell? (q.add k) = some (.slice Bi v di) := fun y => HG2.out _ y.h
          conv => arg 5; simp [pick]
          iterate 4 go_big_quiet_step (fail)
          refine wpQuiet_conv rfl _ _ _ rfl (.slice Ai u ci) (.string x) rfl (fun z => HC1.out _ z.h) ?_
          conv => arg 6; simp only [Act.put, List.setIfInBounds_toArray, List.set_cons_zero, List.set_cons_succ]
          iterate 4 go_big_quiet_step (fail)
          refine wpQuiet_conv rfl _ _ _ rfl (.slice Bi v di) (.string y) rfl (fun z => HC2.out _ z.h) ?_
          conv => arg 6; simp only [Act.put, List.setIfInBounds_toArray, List.set_cons_zero, List.set_cons_succ]
          go_big_quiet_step (fail)
          refine wpQuiet_nil ?_
          clear ne g1 g2
          refine wpK_seq [] _ _ _ (by kernel_rfl) ?_
          conv => arg 4; simp [pick]
          go_wp2
          go_ret
          exact ⟨false, rfl, fun e => by rw [HXY.out e] at hxq; simp at hxq, HD.out⟩
        · go_upto_region 6 with fail
          refine wp_region_K S [0, 1, 2, 3, 4, 5, 6, 7, 8, 9, 10] (by kernel_rfl) ?_
          refine wpK_quiet (f := 0) (by kernel_rfl) (fun _ x _ _ _ h => by cases x <;> exact h) hH [0, 1, 2, 3, 4, 5, 6, 7, 8, 9, 10] _ _ (by kernel_rfl) (by kernel_rfl) (by kernel_rfl) ?_
          have ne : Nonempty (WorldIn S) := ⟨⟨_, hH⟩⟩
          have g1 : ∀ y : WorldIn S, y.w.cell? (p.add k) = some (.slice Ai u ci) := fun y => HG1.out _ y.h
          have g2 : ∀ y : WorldIn S, y.w.cell? (q.add k) = some (.slice Bi v di) := fun y => HG2.out _ y.h
          conv => arg 5; simp [pick]
          iterate 4 go_big_quiet_step (fail)
          refine wpQuiet_conv rfl _ _ _ rfl (.slice Ai u ci) (.string x) rfl (fun z => HC1.out _ z.h) ?_
          conv => arg 6; simp only [Act.put, List.setIfInBounds_toArray, List.set_cons_zero, List.set_cons_succ]
          iterate 4 go_big_quiet_step (fail)
          refine wpQuiet_conv rfl _ _ _ rfl (.slice Bi v di) (.string y) rfl (fun z => HC2.out _ z.h) ?_
          conv => arg 6; simp only [Act.put, List.setIfInBounds_toArray, List.set_cons_zero, List.set_cons_succ]
          go_big_quiet_step (fail)
          refine wpQuiet_nil ?_
          clear ne g1 g2
          refine wpK_seq [] _ _ _ (by kernel_rfl) ?_
          conv => arg 4; simp [pick]
          go_wp2
          go_roundw
          case rel => exact ⟨k + 1, by go_num, by omega, HD.out⟩
          case measure => simp [RowKit.intOf]; omega
      · obtain rfl : k = n := by omega
        go_wp2
        go_ret
        exact ⟨true, rfl, fun _ => rfl, hbw⟩
  · have hnq : ((n : Int) != m) = true := by
      have : (n : Int) ≠ m := by omega
      simpa using this
    go_enter Try.func25, Try.ntmps25
    go_wp2
    go_ret
    exact ⟨false, rfl, fun e => absurd (by rw [HN.out.1, HN.out.2, e]) hnm, Below.refl _ _⟩
end Go.Proofs.Ythhjdielananeaa
