/-
  Texts of one layer in one: Canon, Blo, Bv.
-/
import Derived.Test.YtgmejaiifibfoaaGreatDoorT1
import Derived.Test.YtgmejaiifibfoaaGreatDoorL11

/-
  What is read without an error was written so: numbers, texts, transactions, certificates; plainly, over lists of bytes.
-/
set_option linter.unusedSimpArgs false
set_option linter.unusedVariables false
namespace Go.Proofs.YtgmejaiifibfoaaGreatDoor
open Go.RowKit Go.Lib
open L2 (chk vlu)
open L3 (encN encs rdN numS textS textV mostV mostS failS)

theorem fail_zero {e : Int} {p : List UInt8 × Int} (h : (failS e p).2 = 0) : p.2 = 0 ∧ e = 0 ∧ failS e p = p := by
  unfold L3.failS at h ⊢
  by_cases hc : p.2 ≠ 0 ∨ e = 0
  · rw [if_pos hc] at h ⊢
    rcases hc with hc | hc
    · exact absurd h hc
    · exact ⟨h, hc, rfl⟩
  · rw [if_neg hc] at h
    exact absurd (.inr h) hc
theorem num_canon {p : List UInt8 × Int} (h : (numS p).2 = 0) : p.2 = 0 ∧ p.1 = encN (numV p).toNat ++ (numS p).1 ∧ 0 ≤ numV p ∧ numV p ≤ 4611686018427387904 := by
  obtain ⟨k, s, e, hq⟩ : ∃ k s e, rdN 0 0 p.1 = (k, s, e) := ⟨_, _, _, rfl⟩
  unfold L3.numS at h ⊢
  unfold numV
  rw [hq] at h ⊢
  dsimp only at h ⊢
  by_cases he : e = 0
  · subst he
    rw [if_pos rfl] at h ⊢
    obtain ⟨h1, h2, h3, h4⟩ := L3.rd_back0 hq
    refine ⟨h, ?_, by omega, by omega⟩
    show p.1 = encN ((k : Int)).toNat ++ p.1.drop s
    rw [Int.toNat_natCast, h1, List.take_append_drop]
  · rw [if_neg he] at h
    have := (fail_zero h).2.1
    omega
theorem most_canon {m : Int} {p : List UInt8 × Int} (h : (mostS m p).2 = 0) : (numS p).2 = 0 ∧ mostV m p = numV p ∧ mostS m p = numS p ∧ numV p ≤ m := by
  unfold L3.mostS at h ⊢
  unfold L3.mostV numV
  by_cases hm : m < ((rdN 0 0 p.1).1 : Int)
  · rw [if_pos hm] at h
    have := (fail_zero h).2.1
    omega
  · rw [if_neg hm] at h ⊢
    rw [if_neg hm]
    exact ⟨h, rfl, rfl, by omega⟩
theorem text_canon {p : List UInt8 × Int} (h : (textS p).2 = 0) : p.2 = 0 ∧ p.1 = txtB (textV p) ++ (textS p).1 := by
  unfold L3.textS at h ⊢
  unfold L3.textV
  by_cases hl : ((mostS 65536 p).1.length : Int) < mostV 65536 p
  · rw [if_pos hl] at h
    have := (fail_zero h).2.1
    omega
  · rw [if_neg hl] at h ⊢
    rw [if_neg hl]
    obtain ⟨h1, h2, h3, h4⟩ := most_canon (m := 65536) (p := p) h
    obtain ⟨k1, k2, k3, k4⟩ := num_canon h1
    rw [h3] at hl ⊢
    rw [h2] at hl ⊢
    refine ⟨k1, ?_⟩
    have e : (List.take (numV p).toNat (numS p).1).length = (numV p).toNat := by rw [List.length_take]; omega
    unfold txtB
    rw [e, List.append_assoc, List.take_append_drop]
    exact k2
theorem end_canon {t : Txx} {p : List UInt8 × Int} (h : (endT t p).2.2 = 0) : p.2 = 0 ∧ right t = true ∧ endT t p = (t, p) := by
  unfold endT at h ⊢
  by_cases hc : p.2 ≠ 0 ∨ right t = false
  · rw [if_pos hc] at h
    have := (fail_zero h).2.1
    omega
  · rw [if_neg hc] at h ⊢
    exact ⟨h, by cases hr : right t with | true => rfl | false => exact absurd (.inr hr) hc, rfl⟩
/-- A transaction that is taken was written so. -/
theorem takeT_canon {p : List UInt8 × Int} (h : (takeT p).2.2 = 0) : p.2 = 0 ∧ right (takeT p).1 = true ∧ p.1 = bytesT (takeT p).1 ++ (takeT p).2.1 := by
  unfold takeT at h ⊢
  by_cases h0 : numV p ≠ 1 ∧ numV p ≠ 2
  · rw [if_pos h0] at h
    have := (fail_zero h).2.1
    omega
  · rw [if_neg h0] at h ⊢
    generalize hp1 : numS p = p1 at h ⊢
    generalize hp2 : numS p1 = p2 at h ⊢
    generalize hp3 : textS p2 = p3 at h ⊢
    by_cases h1 : numV p = 1
    · rw [if_pos h1] at h ⊢
      obtain ⟨k4, r4, e4⟩ := end_canon h
      rw [e4]
      obtain ⟨k3, b3, _⟩ := num_canon k4
      generalize hp4 : textS p3 = p4 at *
      obtain ⟨k2, b2⟩ := text_canon (p := p3) (by rw [hp4]; exact k3)
      obtain ⟨k1, b1⟩ := text_canon (p := p2) (by rw [hp3]; exact k2)
      obtain ⟨k0, b0, _⟩ := num_canon (p := p1) (by rw [hp2]; exact k1)
      obtain ⟨k, b, _⟩ := num_canon (p := p) (by rw [hp1]; exact k0)
      refine ⟨k, r4, ?_⟩
      rw [b, hp1, b0, hp2, b1, hp3, b2, hp4, b3, h1]
      unfold bytesT
      rw [if_pos rfl]
      simp
    · rw [if_neg h1] at h ⊢
      have h2 : numV p = 2 := by
        rcases Classical.em (numV p = 2) with h2 | h2
        · exact h2
        · exact absurd ⟨h1, h2⟩ h0
      obtain ⟨k4, r4, e4⟩ := end_canon h
      rw [e4]
      generalize hp4 : textS p3 = p4 at *
      obtain ⟨k3, b3⟩ := text_canon (p := p4) k4
      obtain ⟨k2, b2⟩ := text_canon (p := p3) (by rw [hp4]; exact k3)
      obtain ⟨k1, b1⟩ := text_canon (p := p2) (by rw [hp3]; exact k2)
      obtain ⟨k0, b0, _⟩ := num_canon (p := p1) (by rw [hp2]; exact k1)
      obtain ⟨k, b, _⟩ := num_canon (p := p) (by rw [hp1]; exact k0)
      refine ⟨k, r4, ?_⟩
      rw [b, hp1, b0, hp2, b1, hp3, b2, hp4, b3, h2]
      unfold bytesT
      rw [if_neg (show ¬ (2 : Int) = 1 by decide)]
      simp

open L11 (Crt readC takeC fitV fitU nS mayV bytesV numsV sgV)
theorem fit_back {n : Int} (h0 : 0 ≤ n) (h : 0 ≤ fitV n) : fitV n = n := by unfold L11.fitV at h ⊢; split at h <;> (first | omega | rfl)
theorem fit_back_u {n : Int} (h0 : 0 ≤ n) (h : fitU n < 1024) : (fitU n : Int) = n := by
  unfold L11.fitU at h ⊢
  split at h
  · omega
  · rename_i hn; rw [if_neg hn]; omega
theorem nV (p : List UInt8 × Int) : L11.numV p = numV p := rfl
theorem nS_canon {k : Nat} {p : List UInt8 × Int} (h : (nS (k + 1) p).2 = 0) : (nS k p).2 = 0 ∧ (nS k p).1 = encN (numV (nS k p)).toNat ++ (nS (k + 1) p).1 := by
  have := num_canon (p := nS k p) h
  exact ⟨this.1, this.2.1⟩
theorem one_canon {n : Int} {l r : List UInt8} (h : l = encN n.toNat ++ r) : l = encs [n] ++ r := by rw [h]; simp [L3.encs]
/-- A certificate that is taken was written so. -/
theorem takeC_canon {p : List UInt8 × Int} (h : (takeC p).2.2 = 0) : p.2 = 0 ∧ mayV (takeC p).1 = true ∧ p.1 = bytesV (takeC p).1 ++ (takeC p).2.1 := by
  have e : (readC p).2.2 = 0 ∧ mayV (readC p).1 = true ∧ takeC p = readC p := by
    unfold L11.takeC at h ⊢
    by_cases hc : (readC p).2.2 ≠ 0 ∨ mayV (readC p).1 = false
    · rw [if_pos hc] at h
      have := (fail_zero h).2.1
      omega
    · rw [if_neg hc] at h ⊢
      exact ⟨h, by cases hr : mayV (readC p).1 with | true => rfl | false => exact absurd (.inr hr) hc, rfl⟩
  obtain ⟨h2, hm, ht⟩ := e
  rw [ht]
  clear ht h
  have hn : ∀ k, 0 ≤ L11.numV (nS k p) := fun k => (L11.num_at _).1
  have hn0 : 0 ≤ L11.numV p := (L11.num_at _).1
  unfold L11.readC at h2 hm ⊢
  by_cases h1 : fitV (L11.numV p) = 1
  · rw [if_pos h1] at h2 hm ⊢
    obtain ⟨hs, -, -, -⟩ := L11.may_one hm rfl
    obtain ⟨a1, a2, a3, -, a4⟩ := L11.sg_facts hs
    dsimp only at h2 a1 a2 a3 a4
    have v0 := fit_back hn0 (by omega)
    have v1 := fit_back (hn 1) (by omega)
    have v2 := fit_back (hn 2) (by omega)
    have v3 := fit_back (hn 3) (by omega)
    have v4 := fit_back_u (hn 4) a4
    obtain ⟨k4, b4⟩ := nS_canon (k := 4) h2
    obtain ⟨k3, b3⟩ := nS_canon (k := 3) k4
    obtain ⟨k2, b2⟩ := nS_canon (k := 2) k3
    obtain ⟨k1, b1⟩ := nS_canon (k := 1) k2
    obtain ⟨k0, b0⟩ := nS_canon (k := 0) k1
    refine ⟨k0, hm, ?_⟩
    have b0' : p.1 = encN (1 : Int).toNat ++ (nS 1 p).1 := by rw [show (1 : Int) = L11.numV p by rw [← v0]; exact h1.symm]; exact b0
    rw [v1, v2, v3]
    show p.1 = bytesV _ ++ (nS 5 p).1
    rw [b0', b1, b2, b3, b4]
    unfold L11.bytesV L11.numsV
    rw [if_neg (show ¬ (1 : Int) = 0 by decide), if_pos rfl]
    dsimp only
    rw [v4]
    simp [L3.encs, nV]
  · rw [if_neg h1] at h2 hm ⊢
    by_cases h3 : fitV (L11.numV p) = 2
    · rw [if_pos h3] at h2 hm ⊢
      obtain ⟨-, hs, c1, c2, c3⟩ := L11.may_two hm (show (2 : Int) ≠ 0 by decide) (show (2 : Int) ≠ 1 by decide)
      obtain ⟨a1, a2, a3, -, a4⟩ := L11.sg_facts hs
      dsimp only at h2 a1 a2 a3 a4 c1 c2 c3
      have v0 := fit_back hn0 (by omega)
      have v1 := fit_back (hn 1) (by omega)
      have v2 := fit_back (hn 2) (by omega)
      have v3 := fit_back (hn 3) (by omega)
      have v4 := fit_back_u (hn 4) a4
      have v5 := fit_back (hn 5) (by omega)
      have v6 := fit_back (hn 6) (by omega)
      have v7 := fit_back_u (hn 7) c3
      obtain ⟨k7, b7⟩ := nS_canon (k := 7) h2
      obtain ⟨k6, b6⟩ := nS_canon (k := 6) k7
      obtain ⟨k5, b5⟩ := nS_canon (k := 5) k6
      obtain ⟨k4, b4⟩ := nS_canon (k := 4) k5
      obtain ⟨k3, b3⟩ := nS_canon (k := 3) k4
      obtain ⟨k2, b2⟩ := nS_canon (k := 2) k3
      obtain ⟨k1, b1⟩ := nS_canon (k := 1) k2
      obtain ⟨k0, b0⟩ := nS_canon (k := 0) k1
      refine ⟨k0, hm, ?_⟩
      have b0' : p.1 = encN (2 : Int).toNat ++ (nS 1 p).1 := by rw [show (2 : Int) = L11.numV p by rw [← v0]; exact h3.symm]; exact b0
      rw [v1, v2, v3, v5, v6]
      show p.1 = bytesV _ ++ (nS 8 p).1
      rw [b0', b1, b2, b3, b4, b5, b6, b7]
      unfold L11.bytesV L11.numsV
      rw [if_neg (show ¬ (2 : Int) = 0 by decide), if_neg (show ¬ (2 : Int) = 1 by decide)]
      dsimp only
      rw [v4, v7]
      simp [L3.encs, nV]
    · rw [if_neg h3] at h2 hm ⊢
      have hk : fitV (L11.numV p) = 0 := by
        unfold L11.mayV at hm
        dsimp only at hm
        by_cases hz : fitV (L11.numV p) = 0
        · exact hz
        · rw [if_neg hz, if_neg h1, if_neg h3] at hm; cases hm
      have v0 := fit_back hn0 (by omega)
      obtain ⟨k0, b0⟩ := nS_canon (k := 0) h2
      refine ⟨k0, hm, ?_⟩
      have b0' : p.1 = encN (0 : Int).toNat ++ (nS 1 p).1 := by rw [show (0 : Int) = L11.numV p by rw [← v0]; exact hk.symm]; exact b0
      show p.1 = bytesV _ ++ (nS 1 p).1
      rw [hk]
      unfold L11.bytesV L11.numsV
      rw [if_pos rfl]
      rw [b0']
      simp [L3.encs]
end Go.Proofs.YtgmejaiifibfoaaGreatDoor

/-
  Blocks and timeouts, plainly: which may be, their bytes; what is read of bytes; both ways.
-/
set_option linter.unusedSimpArgs false
set_option linter.unusedVariables false
namespace Go.Proofs.YtgmejaiifibfoaaGreatDoor
open Go.RowKit Go.Lib
open L3 (encN encs rdN numS textS textV mostV mostS failS doneV)
open L11 (Crt zeroC takeC mayV bytesV okW)

/-- A timeout. -/
structure Tmo where
  signer : Int
  view : Int
  high : Crt
deriving DecidableEq, Inhabited
/-- A block. -/
structure Blo where
  view : Int
  round : Int
  height : Int
  author : Int
  par : Crt
  proof : List Tmo
  txs : List Txx
deriving DecidableEq, Inhabited
def zeroT : Tmo := ⟨0, 0, zeroC⟩
def zeroB : Blo := ⟨0, 0, 0, 0, zeroC, [], []⟩
/-- May a certificate stand where none of the view's fallback may? -/
def openV (c : Crt) (v : Int) : Bool := mayV c && (if c.kind = 2 then !decide (c.co = 0) && decide (c.view < v) else decide (c.view ≤ v))
/-- May it be a timeout? -/
def tmoV (t : Tmo) : Bool := okW t.signer 0 9 && okW t.view 1 1048576 && openV t.high t.view
/-- At most eight, all right. -/
def rightL (l : List Txx) : Bool := decide (l.length ≤ 8) && l.all right
def headV (b : Blo) : Bool := okW b.view 1 1048576 && okW b.author 0 9 && okW b.height 0 3 && rightL b.txs
/-- May a block of this height stand behind this parent? -/
def followsV (b : Blo) : Bool :=
  if b.height ≤ 1 then openV b.par b.view
  else mayV b.par && decide (b.par.kind = 2) && decide (b.par.co = 0) && decide (b.par.view = b.view) && decide (b.par.author = b.author) && decide (b.par.height = b.height - 1)
def parentV (b : Blo) : Bool := followsV b && decide (b.round = b.par.round + 1) && decide (b.round ≤ 1073741824)
/-- The signer ahead of place k. -/
def prevS (l : List Tmo) : Nat → Int
  | 0 => -1
  | k + 1 => (l[k]!).signer
/-- Is the k-th timeout right where it stands? -/
def riseAt (v : Int) (l : List Tmo) (k : Nat) : Bool := tmoV (l[k]!) && decide ((l[k]!).view = v) && decide (prevS l k < (l[k]!).signer)
def risesV (v : Int) (l : List Tmo) : Bool := (List.range l.length).all (riseAt v l)
def provenV (b : Blo) : Bool := if b.height = 1 then decide (1 ≤ b.proof.length ∧ b.proof.length ≤ 10) && risesV b.view b.proof else b.proof.isEmpty
/-- The error, or none. -/
def checkV (b : Blo) : Int := if headV b = false then 120 else if parentV b = false then 122 else if provenV b = false then 121 else 0
theorem check_zero {b : Blo} (h : checkV b = 0) : headV b = true ∧ parentV b = true ∧ provenV b = true := by
  unfold checkV at h
  cases h1 : headV b <;> cases h2 : parentV b <;> cases h3 : provenV b <;> simp [h1, h2, h3] at h ⊢
theorem rises_at {v : Int} {l : List Tmo} (h : risesV v l = true) {k : Nat} (hk : k < l.length) : riseAt v l k = true := by
  unfold risesV at h
  rw [List.all_eq_true] at h
  exact h k (List.mem_range.2 hk)
theorem rises_no {v : Int} {l : List Tmo} {k : Nat} (hk : k < l.length) (h : riseAt v l k = false) : risesV v l = false := by
  unfold risesV
  rw [List.all_eq_false]
  exact ⟨k, List.mem_range.2 hk, by rw [h]; simp⟩
theorem rises_all {v : Int} {l : List Tmo} (h : ∀ k, k < l.length → riseAt v l k = true) : risesV v l = true := by
  unfold risesV
  rw [List.all_eq_true]
  exact fun k hk => h k (List.mem_range.1 hk)
theorem bang_at {l : List Tmo} {k : Nat} (hk : k < l.length) : l[k]! = l[k] := getElem!_pos l k hk
/-- Each timeout of a block that may be. -/
theorem proof_mem {b : Blo} (h : provenV b = true) : ∀ t ∈ b.proof, tmoV t = true ∧ t.view = b.view := by
  intro t ht
  unfold provenV at h
  split at h
  · simp only [Bool.and_eq_true] at h
    obtain ⟨k, hk, rfl⟩ := List.getElem_of_mem ht
    have := rises_at h.2 hk
    unfold riseAt at this
    rw [bang_at hk] at this
    simp only [Bool.and_eq_true, decide_eq_true_eq] at this
    exact this.1
  · rw [List.isEmpty_iff] at h; rw [h] at ht; cases ht
theorem proof_len {b : Blo} (h : provenV b = true) : b.proof.length ≤ 10 := by
  unfold provenV at h
  split at h
  · simp only [Bool.and_eq_true, decide_eq_true_eq] at h; omega
  · rw [List.isEmpty_iff] at h; rw [h]; simp

/-! Bytes, there and back -/
/-- A timeout's bytes in a block. -/
def tmB (t : Tmo) : List UInt8 := encN t.signer.toNat ++ bytesV t.high
/-- A list's bytes. -/
def listB {α : Type} (f : α → List UInt8) (l : List α) : List UInt8 := encN l.length ++ (l.map f).flatten
/-- A block's bytes. -/
def bytesB (b : Blo) : List UInt8 := encs [b.view, b.round, b.height, b.author] ++ (bytesV b.par ++ (listB tmB b.proof ++ listB bytesT b.txs))
section
variable {α : Type} (one : List UInt8 × Int → α × (List UInt8 × Int))
/-- The reader behind k. -/
def itG : Nat → List UInt8 × Int → List UInt8 × Int
  | 0, p => p
  | k + 1, p => (one (itG k p)).2
/-- The first n. -/
def listG (n : Nat) (p : List UInt8 × Int) : List α := (List.range n).map fun k => (one (itG one k p)).1
theorem listG_snoc (n : Nat) (p : List UInt8 × Int) : listG one (n + 1) p = listG one n p ++ [(one (itG one n p)).1] := by unfold listG; rw [List.range_succ, List.map_append]; rfl
theorem listG_len (n : Nat) (p : List UInt8 × Int) : (listG one n p).length = n := by unfold listG; simp
theorem itG_canon (f : α → List UInt8) (hc : ∀ q, (one q).2.2 = 0 → q.2 = 0 ∧ q.1 = f (one q).1 ++ (one q).2.1) (p : List UInt8 × Int) : ∀ n, (itG one n p).2 = 0 → p.2 = 0 ∧ p.1 = ((listG one n p).map f).flatten ++ (itG one n p).1
  | 0, h => ⟨h, by simp [listG, itG]⟩
  | n + 1, h => by
    obtain ⟨h1, h2⟩ := hc (itG one n p) h
    obtain ⟨h3, h4⟩ := itG_canon f hc p n h1
    refine ⟨h3, ?_⟩
    rw [listG_snoc, List.map_append, List.flatten_append, List.append_assoc]
    show p.1 = _ ++ (_ ++ (one (itG one n p)).2.1)
    rw [List.map_singleton, List.flatten_singleton, ← h2]
    exact h4
theorem itG_back (f : α → List UInt8) (L : List α) (rest : List UInt8) (hb : ∀ t ∈ L, ∀ r, one (f t ++ r, 0) = (t, (r, 0))) : ∀ n, n ≤ L.length → itG one n ((L.map f).flatten ++ rest, 0) = (((L.drop n).map f).flatten ++ rest, 0) ∧ listG one n ((L.map f).flatten ++ rest, 0) = L.take n
  | 0, _ => by simp [itG, listG]
  | n + 1, h => by
    obtain ⟨h1, h2⟩ := itG_back f L rest hb n (by omega)
    have hd : ((L.drop n).map f).flatten ++ rest = f L[n] ++ (((L.drop (n + 1)).map f).flatten ++ rest) := by
      rw [List.drop_eq_getElem_cons (show n < L.length by omega), List.map_cons, List.flatten_cons, List.append_assoc]
    have h3 := hb L[n] (List.getElem_mem _) (((L.drop (n + 1)).map f).flatten ++ rest)
    constructor
    · show (one (itG one n _)).2 = _
      rw [h1, hd, h3]
    · rw [listG_snoc, h1, h2, hd, h3, List.take_succ_eq_append_getElem (show n < L.length by omega)]
theorem itG_back_all (f : α → List UInt8) (L : List α) (rest : List UInt8) (hb : ∀ t ∈ L, ∀ r, one (f t ++ r, 0) = (t, (r, 0))) : itG one L.length ((L.map f).flatten ++ rest, 0) = (rest, 0) ∧ listG one L.length ((L.map f).flatten ++ rest, 0) = L := by
  obtain ⟨h1, h2⟩ := itG_back one f L rest hb L.length (Nat.le_refl _)
  rw [h1, h2]
  simp
end
/-- A number, cut where no block has it. -/
def fitB (n : Int) : Int := if 1073741824 < n then -1 else n
theorem fitB_in (n : Int) (h : 0 ≤ n) : inI (fitB n) := by unfold fitB inI; split <;> omega
theorem fitB_small {n : Int} (h : n ≤ 1073741824) : fitB n = n := by unfold fitB; rw [if_neg (by omega)]
theorem fitB_back {n : Int} (h : 0 ≤ fitB n) : fitB n = n := by unfold fitB at h ⊢; split at h <;> (first | omega | rfl)
/-- The next timeout of a reader, in a block of this view. -/
def oneT (v : Int) (p : List UInt8 × Int) : Tmo × (List UInt8 × Int) := (⟨fitB (numV p), v, (takeC (numS p)).1⟩, (takeC (numS p)).2)
/-- The reader behind the four numbers, behind the parent; how many timeouts; and so on. -/
def rS (p : List UInt8 × Int) : List UInt8 × Int := numS (numS (numS (numS p)))
def readB (p : List UInt8 × Int) : Blo × (List UInt8 × Int) :=
  let v := fitB (numV p)
  let c := takeC (rS p)
  let s := mostS 10 c.2
  let n := (mostV 10 c.2).toNat
  let s2 := itG (oneT v) n s
  let m := (mostV 8 s2).toNat
  let s3 := mostS 8 s2
  (⟨v, fitB (numV (numS p)), fitB (numV (numS (numS p))), fitB (numV (numS (numS (numS p)))), c.1, listG (oneT v) n s, listG takeT m s3⟩, itG takeT m s3)
/-- What Take tells and leaves. -/
def takeB (p : List UInt8 × Int) : Blo × (List UInt8 × Int) :=
  if (failS (checkV (readB p).1) (readB p).2).2 ≠ 0 then (zeroB, failS (checkV (readB p).1) (readB p).2) else ((readB p).1, failS (checkV (readB p).1) (readB p).2)
/-- Of all bytes. -/
def endP (z : Blo × (List UInt8 × Int)) : Blo × Int := if doneV z.2 ≠ 0 then (zeroB, doneV z.2) else (z.1, 0)
def parseB (s : List UInt8) : Blo × Int := endP (takeB (s, 0))
theorem endP_zero {z : Blo × (List UInt8 × Int)} (h : (endP z).2 = 0) : doneV z.2 = 0 ∧ endP z = (z.1, 0) := by
  unfold endP at h ⊢
  by_cases hd : doneV z.2 ≠ 0
  · rw [if_pos hd] at h; exact absurd h hd
  · rw [if_neg hd]; exact ⟨Decidable.not_not.1 hd, rfl⟩
theorem endP_no {z : Blo × (List UInt8 × Int)} (h : (endP z).2 ≠ 0) : endP z = (zeroB, (endP z).2) := by
  unfold endP at h ⊢
  by_cases hd : doneV z.2 ≠ 0
  · rw [if_pos hd]
  · rw [if_neg hd] at h; exact absurd rfl h

theorem okW_in {n lo hi : Int} (h : okW n lo hi = true) : lo ≤ n ∧ n ≤ hi := of_decide_eq_true h
theorem tmo_facts {t : Tmo} (h : tmoV t = true) : (0 ≤ t.signer ∧ t.signer ≤ 9) ∧ (1 ≤ t.view ∧ t.view ≤ 1048576) ∧ openV t.high t.view = true ∧ mayV t.high = true := by
  unfold tmoV at h
  simp only [Bool.and_eq_true] at h
  refine ⟨okW_in h.1.1, okW_in h.1.2, h.2, ?_⟩
  have := h.2
  unfold openV at this
  simp only [Bool.and_eq_true] at this
  exact this.1
theorem head_facts {b : Blo} (h : headV b = true) : (1 ≤ b.view ∧ b.view ≤ 1048576) ∧ (0 ≤ b.author ∧ b.author ≤ 9) ∧ (0 ≤ b.height ∧ b.height ≤ 3) ∧ b.txs.length ≤ 8 ∧ ∀ t ∈ b.txs, right t = true := by
  unfold headV rightL at h
  simp only [Bool.and_eq_true, decide_eq_true_eq, List.all_eq_true] at h
  exact ⟨okW_in h.1.1.1, okW_in h.1.1.2, okW_in h.1.2, h.2.1, h.2.2⟩
theorem follows_may {b : Blo} (h : followsV b = true) : mayV b.par = true := by
  unfold followsV at h
  split at h
  · unfold openV at h; simp only [Bool.and_eq_true] at h; exact h.1
  · simp only [Bool.and_eq_true] at h; exact h.1.1.1.1.1
theorem may_round {c : Crt} (h : mayV c = true) : 0 ≤ c.round ∧ c.round ≤ 1073741824 := by
  by_cases h0 : c.kind = 0
  · rw [L11.may_zero h h0]; exact ⟨by decide, by decide⟩
  · by_cases h1 : c.kind = 1
    · have := (L11.sg_facts (L11.may_one h h1).1).2.2.1; omega
    · have := (L11.sg_facts (L11.may_two h h0 h1).2.1).2.2.1; omega
theorem parent_facts {b : Blo} (h : parentV b = true) : mayV b.par = true ∧ followsV b = true ∧ b.round = b.par.round + 1 ∧ 1 ≤ b.round ∧ b.round ≤ 1073741824 := by
  unfold parentV at h
  simp only [Bool.and_eq_true, decide_eq_true_eq] at h
  have hm := follows_may h.1.1
  have := may_round hm
  exact ⟨hm, h.1.1, h.1.2, by omega, h.2⟩
theorem oneT_back (v : Int) (t : Tmo) (h : tmoV t = true) (hv : t.view = v) (r : List UInt8) : oneT v (tmB t ++ r, 0) = (t, (r, 0)) := by
  obtain ⟨h1, h2, h3, h4⟩ := tmo_facts h
  have e : tmB t ++ r = encN t.signer.toNat ++ (bytesV t.high ++ r) := by unfold tmB; rw [List.append_assoc]
  obtain ⟨n1, n2⟩ := num_back t.signer.toNat (bytesV t.high ++ r) (by omega)
  have hc := L11.take_bytes t.high r h4
  unfold oneT
  rw [e, n1, n2, hc, Int.toNat_of_nonneg h1.1, fitB_small (by omega), ← hv]
theorem oneT_canon (v : Int) (q : List UInt8 × Int) (h : (oneT v q).2.2 = 0) (hs : 0 ≤ (oneT v q).1.signer) : q.2 = 0 ∧ q.1 = tmB (oneT v q).1 ++ (oneT v q).2.1 := by
  unfold oneT at h hs ⊢
  dsimp only at h hs ⊢
  obtain ⟨k1, k2, k3⟩ := takeC_canon h
  obtain ⟨n1, n2, n3, n4⟩ := num_canon k1
  refine ⟨n1, ?_⟩
  unfold tmB
  dsimp only
  rw [fitB_back hs, List.append_assoc, ← k3]
  exact n2
theorem flat_len_le {α : Type} (f : α → List UInt8) (n : Nat) : ∀ L : List α, (∀ t ∈ L, (f t).length ≤ n) → ((L.map f).flatten).length ≤ L.length * n
  | [], _ => by simp
  | t :: L, h => by
    have h1 := h t (List.mem_cons_self ..)
    have h2 := flat_len_le f n L fun x hx => h x (List.mem_cons_of_mem _ hx)
    rw [List.map_cons, List.flatten_cons, List.length_append, List.length_cons, Nat.add_mul]
    omega
theorem encN9 {n : Nat} (h : n ≤ 4611686018427387904) : (encN n).length ≤ 9 := L3.encN_le9 h
theorem txtB_128 {s : List UInt8} (h : s.length ≤ 128) : (txtB s).length ≤ 137 := by
  unfold txtB; rw [List.length_append]; have := encN9 (n := s.length) (by omega); omega
theorem bytesT_len {t : Txx} (h : right t = true) : (bytesT t).length ≤ 429 := by
  obtain ⟨_, f1, f2, f3, f4, _, _⟩ := right_wf h
  have hn : posN t.nonce = true := by
    by_cases hk : t.kind = 1
    · exact (right_move h hk).1
    · exact (right_put h hk).1
  have hn := posN_in hn
  have hk : t.kind.toNat ≤ 2 := by
    by_cases hk : t.kind = 1
    · rw [hk]; decide
    · rw [(right_put h hk).2.2.2.2.2.2]; decide
  have a1 := encN9 (n := t.kind.toNat) (by omega)
  have a2 := encN9 (n := t.nonce.toNat) (by omega)
  have t1 := txtB_128 f1
  have t2 := txtB_128 f2
  have t3 := txtB_128 f3
  have t4 := txtB_128 f4
  unfold bytesT
  rw [List.length_append, List.length_append, List.length_append]
  split
  · rename_i hk1
    have ha := posN_in (right_move h hk1).2.2.2.1
    have a3 := encN9 (n := t.amount.toNat) (by omega)
    rw [List.length_append]; omega
  · rw [List.length_append]; omega
theorem tmB_len {t : Tmo} (h : tmoV t = true) : (tmB t).length ≤ 81 := by
  obtain ⟨h1, h2, h3, h4⟩ := tmo_facts h
  have a1 := encN9 (n := t.signer.toNat) (by omega)
  have a2 := L11.bytes_len h4
  unfold tmB
  rw [List.length_append]; omega
theorem bytesB_len {b : Blo} (h : checkV b = 0) : (bytesB b).length ≤ 5000 := by
  obtain ⟨hh, hp, hr⟩ := check_zero h
  obtain ⟨h1, h2, h3, h4, h5⟩ := head_facts hh
  obtain ⟨p1, p2, p3, p4, p5⟩ := parent_facts hp
  have q1 := proof_mem hr
  have q2 := proof_len hr
  have l1 := L11.bytes_len p1
  have l2 := flat_len_le tmB 81 b.proof fun t ht => tmB_len (q1 t ht).1
  have l3 := flat_len_le bytesT 429 b.txs fun t ht => bytesT_len (h5 t ht)
  have l4 := L3.encs_le [b.view, b.round, b.height, b.author] (by
    have e : ∀ n : Int, 0 ≤ n → n ≤ 4611686018427387904 → L3.okN n = true := fun n a b => L3.okN_mk a b
    simp [e b.view (by omega) (by omega), e b.round (by omega) (by omega), e b.height (by omega) (by omega), e b.author (by omega) (by omega)])
  have l5 := encN9 (n := b.proof.length) (by omega)
  have l6 := encN9 (n := b.txs.length) (by omega)
  unfold bytesB listB
  simp only [List.length_append] at *
  have e4 : [b.view, b.round, b.height, b.author].length = 4 := rfl
  rw [e4] at l4
  have : b.proof.length * 81 ≤ 810 := by omega
  have : b.txs.length * 429 ≤ 3432 := by omega
  omega
/-- A block comes back from its bytes. -/
theorem takeB_back (b : Blo) (rest : List UInt8) (h : checkV b = 0) : takeB (bytesB b ++ rest, 0) = (b, (rest, 0)) := by
  obtain ⟨hh, hp, hr⟩ := check_zero h
  obtain ⟨h1, h2, h3, h4, h5⟩ := head_facts hh
  obtain ⟨p1, p2, p3, p4, p5⟩ := parent_facts hp
  have q1 := proof_mem hr
  have q2 := proof_len hr
  obtain ⟨l8, e8⟩ : ∃ l, l = (b.txs.map bytesT).flatten ++ rest := ⟨_, rfl⟩
  obtain ⟨l7, e7⟩ : ∃ l, l = encN b.txs.length ++ l8 := ⟨_, rfl⟩
  obtain ⟨l6, e6⟩ : ∃ l, l = (b.proof.map tmB).flatten ++ l7 := ⟨_, rfl⟩
  obtain ⟨l5, e5⟩ : ∃ l, l = encN b.proof.length ++ l6 := ⟨_, rfl⟩
  obtain ⟨l4, e4⟩ : ∃ l, l = bytesV b.par ++ l5 := ⟨_, rfl⟩
  obtain ⟨l3, e3⟩ : ∃ l, l = encN b.author.toNat ++ l4 := ⟨_, rfl⟩
  obtain ⟨l2, e2⟩ : ∃ l, l = encN b.height.toNat ++ l3 := ⟨_, rfl⟩
  obtain ⟨l1, e1⟩ : ∃ l, l = encN b.round.toNat ++ l2 := ⟨_, rfl⟩
  have e : bytesB b ++ rest = encN b.view.toNat ++ l1 := by
    rw [e1, e2, e3, e4, e5, e6, e7, e8]; unfold bytesB listB; simp [L3.encs]
  obtain ⟨v0, s0⟩ := num_back b.view.toNat l1 (by omega)
  obtain ⟨v1, s1⟩ := num_back b.round.toNat l2 (by omega)
  obtain ⟨v2, s2⟩ := num_back b.height.toNat l3 (by omega)
  obtain ⟨v3, s3⟩ := num_back b.author.toNat l4 (by omega)
  obtain ⟨v5, s5⟩ := num_back b.proof.length l6 (by omega)
  obtain ⟨v7, s7⟩ := num_back b.txs.length l8 (by omega)
  have hc := L11.take_bytes b.par l5 p1
  rw [← e1] at v1 s1
  rw [← e2] at v2 s2
  rw [← e3] at v3 s3
  rw [← e4] at hc
  rw [← e5] at v5 s5
  rw [← e7] at v7 s7
  rw [Int.toNat_of_nonneg (by omega)] at v0 v1 v2 v3
  have m5 : mostV 10 (l5, 0) = b.proof.length ∧ mostS 10 (l5, 0) = (l6, 0) := by
    have : ((rdN 0 0 l5).1 : Int) = b.proof.length := v5
    unfold L3.mostV L3.mostS
    dsimp only
    rw [this, if_neg (by omega), if_neg (by omega)]
    exact ⟨rfl, s5⟩
  have m7 : mostV 8 (l7, 0) = b.txs.length ∧ mostS 8 (l7, 0) = (l8, 0) := by
    have : ((rdN 0 0 l7).1 : Int) = b.txs.length := v7
    unfold L3.mostV L3.mostS
    dsimp only
    rw [this, if_neg (by omega), if_neg (by omega)]
    exact ⟨rfl, s7⟩
  obtain ⟨i1, i2⟩ := itG_back_all (oneT b.view) tmB b.proof l7 (fun t ht r => oneT_back b.view t (q1 t ht).1 (q1 t ht).2 r)
  obtain ⟨j1, j2⟩ := itG_back_all takeT bytesT b.txs rest (fun t ht r => take_bytes t r (h5 t ht))
  rw [← e6] at i1 i2
  rw [← e8] at j1 j2
  have hR : readB (bytesB b ++ rest, 0) = (b, (rest, 0)) := by
    unfold readB rS
    rw [e]
    simp only [v0, s0, v1, s1, v2, s2, v3, s3, hc, m5, m7, Int.toNat_natCast, fitB_small (show b.view ≤ 1073741824 by omega), fitB_small (show b.round ≤ 1073741824 by omega), fitB_small (show b.height ≤ 1073741824 by omega), fitB_small (show b.author ≤ 1073741824 by omega), i1, i2, j1, j2]
  unfold takeB
  rw [hR]
  dsimp only
  rw [h]
  have : failS 0 (rest, (0 : Int)) = (rest, 0) := by unfold L3.failS; rw [if_pos (.inr rfl)]
  rw [this, if_neg (fun h => h rfl)]
theorem pair_eta {α β : Type} (x : α × β) : x = (x.1, x.2) := by cases x; rfl
theorem readB_parts (p : List UInt8 × Int) : ∃ v c q s n s2 m s3, v = fitB (numV p) ∧ takeC (rS p) = (c, q) ∧ s = mostS 10 q ∧ n = (mostV 10 q).toNat ∧ s2 = itG (oneT v) n s ∧ m = (mostV 8 s2).toNat ∧ s3 = mostS 8 s2 ∧
    readB p = (⟨v, fitB (numV (numS p)), fitB (numV (numS (numS p))), fitB (numV (numS (numS (numS p)))), c, listG (oneT v) n s, listG takeT m s3⟩, itG takeT m s3) :=
  ⟨fitB (numV p), (takeC (rS p)).1, (takeC (rS p)).2, _, _, _, _, _, rfl, pair_eta _, rfl, rfl, rfl, rfl, rfl, by unfold readB; rfl⟩
theorem itT_canon (v : Int) (s : List UInt8 × Int) (N : Nat) (hs : ∀ t ∈ listG (oneT v) N s, 0 ≤ t.signer) : ∀ n, n ≤ N → (itG (oneT v) n s).2 = 0 → s.2 = 0 ∧ s.1 = ((listG (oneT v) n s).map tmB).flatten ++ (itG (oneT v) n s).1 := by
  intro n
  induction n with
  | zero => intro _ h; exact ⟨h, by simp [listG, itG]⟩
  | succ n ih =>
    intro hn h
    have hm : (oneT v (itG (oneT v) n s)).1 ∈ listG (oneT v) N s := by
      unfold listG
      exact List.mem_map.2 ⟨n, List.mem_range.2 hn, rfl⟩
    obtain ⟨c1, c2⟩ := oneT_canon _ _ h (hs _ hm)
    obtain ⟨c3, c4⟩ := ih (Nat.le_of_succ_le hn) c1
    refine ⟨c3, ?_⟩
    rw [listG_snoc, List.map_append, List.flatten_append, List.append_assoc, List.map_singleton, List.flatten_singleton]
    show _ = _ ++ (_ ++ (oneT v (itG (oneT v) n s)).2.1)
    rw [← c2]
    exact c4
/-- What is taken was written so. -/
theorem takeB_canon {p : List UInt8 × Int} (h : (takeB p).2.2 = 0) : p.2 = 0 ∧ checkV (takeB p).1 = 0 ∧ p.1 = bytesB (takeB p).1 ++ (takeB p).2.1 := by
  have e : takeB p = readB p ∧ (readB p).2.2 = 0 ∧ checkV (readB p).1 = 0 := by
    unfold takeB at h ⊢
    generalize readB p = z at h ⊢
    obtain ⟨zb, zq⟩ := z
    dsimp only at h ⊢
    generalize checkV zb = e at h ⊢
    by_cases hc : (failS e zq).2 ≠ 0
    · rw [if_pos hc] at h; exact absurd h hc
    · rw [if_neg hc] at h ⊢
      obtain ⟨f1, f2, f3⟩ := fail_zero h
      exact ⟨by rw [f3], f1, f2⟩
  obtain ⟨ht, h2, hk⟩ := e
  rw [ht]
  clear ht h
  obtain ⟨v, c, q, s, n, s2, m, s3, ev, ec, es, en, es2, em, es3, hz⟩ := readB_parts p
  rw [hz] at h2 hk ⊢
  clear hz
  dsimp only at h2 hk ⊢
  obtain ⟨hh, hp, hr⟩ := check_zero hk
  have F1 := head_facts hh
  have F2 := parent_facts hp
  have q1 := proof_mem hr
  dsimp only at F1 F2 q1
  have k8 := itG_canon takeT bytesT (fun q hq => ⟨(takeT_canon hq).1, (takeT_canon hq).2.2⟩) s3 m h2
  have k7 := most_canon (m := 8) (p := s2) (by rw [← es3]; exact k8.1)
  have n7 := num_canon k7.1
  have lT := listG_len takeT m s3
  have lL := listG_len (oneT v) n s
  have k6 := itT_canon v s n (fun t ht => (tmo_facts (q1 t ht).1).1.1) n (Nat.le_refl _) (by rw [← es2]; exact n7.1)
  have k5 := most_canon (m := 10) (p := q) (by rw [← es]; exact k6.1)
  have n5 := num_canon k5.1
  have k4 := takeC_canon (p := rS p) (by rw [ec]; exact n5.1)
  have n3 := num_canon (p := numS (numS (numS p))) k4.1
  have n2 := num_canon n3.1
  have n1 := num_canon n2.1
  have n0 := num_canon n1.1
  refine ⟨n0.1, hk, ?_⟩
  have f0 : v = numV p := by rw [ev]; exact fitB_back (by rw [← ev]; exact Int.le_trans (by decide) F1.1.1)
  have f1 := fitB_back (n := numV (numS p)) (Int.le_trans (by decide) F2.2.2.2.1)
  have f2 := fitB_back (n := numV (numS (numS p))) F1.2.2.1.1
  have f3 := fitB_back (n := numV (numS (numS (numS p)))) F1.2.1.1
  have b8 : s3.1 = ((listG takeT m s3).map bytesT).flatten ++ (itG takeT m s3).1 := k8.2
  have b7 : s2.1 = encN m ++ s3.1 := by rw [em, k7.2.1, es3, k7.2.2.1]; exact n7.2.1
  have b6 : s.1 = ((listG (oneT v) n s).map tmB).flatten ++ s2.1 := by rw [es2]; exact k6.2
  have b5 : q.1 = encN n ++ s.1 := by rw [en, k5.2.1, es, k5.2.2.1]; exact n5.2.1
  have b4 : (rS p).1 = bytesV c ++ q.1 := by have := k4.2.2; rw [ec] at this; exact this
  have b3 : (numS (numS (numS p))).1 = encN (numV (numS (numS (numS p)))).toNat ++ (rS p).1 := n3.2.1
  unfold bytesB listB
  dsimp only
  rw [f0, f1, f2, f3]
  rw [f0] at lL b6
  have e0 : encs [numV p, numV (numS p), numV (numS (numS p)), numV (numS (numS (numS p)))] = encN (numV p).toNat ++ (encN (numV (numS p)).toNat ++ (encN (numV (numS (numS p))).toNat ++ encN (numV (numS (numS (numS p)))).toNat)) := by simp [L3.encs]
  rw [e0, lL, lT]
  simp only [List.append_assoc]
  rw [← b8, ← b7, ← b6, ← b5, ← b4, ← b3, ← n2.2.1, ← n1.2.1]
  exact n0.2.1
theorem doneV_zero {q : List UInt8 × Int} (h : doneV q = 0) : q.2 = 0 ∧ q.1 = [] := by
  unfold L3.doneV at h
  by_cases h0 : q.2 ≠ 0
  · rw [if_pos h0] at h; exact absurd h h0
  · rw [if_neg h0] at h
    by_cases h1 : 0 < q.1.length
    · rw [if_pos h1] at h; cases h
    · exact ⟨by omega, List.eq_nil_of_length_eq_zero (by omega)⟩
theorem parse_back (b : Blo) (h : checkV b = 0) : parseB (bytesB b) = (b, 0) := by
  have := takeB_back b [] h
  rw [List.append_nil] at this
  unfold parseB
  rw [this]
  unfold endP
  have : doneV (([] : List UInt8), (0 : Int)) = 0 := rfl
  dsimp only
  rw [this, if_neg (fun h => h rfl)]
theorem endP_canon {s : List UInt8} {z : Blo × (List UInt8 × Int)} (hz : z.2.2 = 0 → checkV z.1 = 0 ∧ s = bytesB z.1 ++ z.2.1) (h : (endP z).2 = 0) : checkV (endP z).1 = 0 ∧ bytesB (endP z).1 = s := by
  obtain ⟨h1, h2⟩ := endP_zero h
  obtain ⟨d1, d2⟩ := doneV_zero h1
  obtain ⟨c2, c3⟩ := hz d1
  rw [d2, List.append_nil] at c3
  rw [h2]
  exact ⟨c2, c3.symm⟩
theorem parse_canon {s : List UInt8} (h : (parseB s).2 = 0) : checkV (parseB s).1 = 0 ∧ bytesB (parseB s).1 = s :=
  endP_canon (z := takeB (s, 0)) (fun hz => (takeB_canon (p := (s, 0)) hz).2) h
theorem parse_no {s : List UInt8} (h : (parseB s).2 ≠ 0) : (parseB s).1 = zeroB := by
  unfold parseB at h ⊢
  rw [endP_no h]
end Go.Proofs.YtgmejaiifibfoaaGreatDoor

/-
  Blocks and timeouts as values: their cells; lists of them as they lie in memory; which are the same.
-/
set_option linter.unusedSimpArgs false
set_option linter.unusedVariables false
set_option maxRecDepth 10000
namespace Go.Proofs.YtgmejaiifibfoaaGreatDoor
open Go.RowKit Go.Maps Go.Lib
open L3 (Blk Reads)
open L11 (Crt zeroC crtL crtC mayV bytesV Stm stmC)

def tmL (t : Tmo) : List Value := [.int .i64 t.signer, .int .i64 t.view, .int .i64 t.high.kind, .int .i64 t.high.block, .int .i64 t.high.view, .int .i64 t.high.round, .int .i64 t.high.height, .int .i64 t.high.author, .int .u32 t.high.sg, .int .u32 t.high.co]
def tmC (t : Tmo) : Array Value := #[.int .i64 t.signer, .int .i64 t.view, .int .i64 t.high.kind, .int .i64 t.high.block, .int .i64 t.high.view, .int .i64 t.high.round, .int .i64 t.high.height, .int .i64 t.high.author, .int .u32 t.high.sg, .int .u32 t.high.co]
theorem tmC_eq (t : Tmo) : (tmC t).toList = tmL t := rfl
theorem tmC_ones (t : Tmo) : (tmC t).all (·.oneCell') = true := by kernel_rfl
/-- A block's cells: P holds its proof, T its transactions. -/
def bloC (b : Blo) (P T : Value) : Array Value := #[.int .i64 b.view, .int .i64 b.round, .int .i64 b.height, .int .i64 b.author, .int .i64 b.par.kind, .int .i64 b.par.block, .int .i64 b.par.view, .int .i64 b.par.round, .int .i64 b.par.height, .int .i64 b.par.author, .int .u32 b.par.sg, .int .u32 b.par.co, P, T]
theorem bloC_ones (b : Blo) (A : Option Addr) (n c : Nat) (B : Option Addr) (m d : Nat) : (bloC b (.slice A n c) (.slice B m d)).all (·.oneCell') = true := by kernel_rfl
theorem tmInfo : (Tryz.prog.info? 26).map (·.size) = some 10 := by kernel_rfl
theorem bloInfo : (Tryz.prog.info? 30).map (·.size) = some 14 := by kernel_rfl
def Tmo.wf (t : Tmo) : Prop := inI t.signer ∧ inI t.view ∧ t.high.wf
theorem zeroT_wf : zeroT.wf := ⟨by unfold inI zeroT; simp, by unfold inI zeroT; simp, L11.zeroC_wf⟩
theorem tmC_inj {x y : Tmo} (h : tmC x = tmC y) : x = y := by
  obtain ⟨a0, a1, ⟨b0, b1, b2, b3, b4, b5, b6, b7⟩⟩ := x
  obtain ⟨c0, c1, ⟨d0, d1, d2, d3, d4, d5, d6, d7⟩⟩ := y
  simp only [tmC, Array.mk.injEq, List.cons.injEq, Value.int.injEq, true_and, and_true] at h
  obtain ⟨rfl, rfl, rfl, rfl, rfl, rfl, rfl, rfl, h6, h7⟩ := h
  obtain rfl : b6 = d6 := by omega
  obtain rfl : b7 = d7 := by omega
  rfl
theorem kdT : Keyed Tryz.prog 26 := Keyed.of_law (deep_law_laid laidOut (m := 4) (by omega) (of_decide_eq_true (by kernel_rfl)) (by kernel_rfl) (by kernel_rfl))
theorem cT : Tryz.prog.cellsOf 26 = 10 := by kernel_rfl
theorem kl_tmo (d : Nat) (t : Tmo) (h : t.wf) : ∃ l, Tryz.prog.keyLits (d + 3) 26 (tmL t) = some l := by
  obtain ⟨h0, h1, h2⟩ := h
  obtain ⟨lc, hc⟩ := L11.kl_crt d t.high h2
  have e0 := kl_int (d + 1) h0
  have e1 := kl_int (d + 1) h1
  unfold Program.keyLits
  simp only [Tryz.underlying26]
  rw [if_pos ⟨cT.symm ▸ rfl, by kernel_rfl⟩]
  have hcx : Tryz.prog.keyLits (d + 2) 24 [.int .i64 t.high.kind, .int .i64 t.high.block, .int .i64 t.high.view, .int .i64 t.high.round, .int .i64 t.high.height, .int .i64 t.high.author, .int .u32 t.high.sg, .int .u32 t.high.co] = some lc := hc
  simp only [cI, L11.cC, tmL, List.mapM_cons, List.mapM_nil, List.drop_zero, List.drop_succ_cons, List.take_succ_cons, List.take_zero, e0, e1, hcx]
  exact ⟨_, rfl⟩
theorem key_atT (x : Tmo) (h : x.wf) : ∃ l, keyOf Tryz.prog 26 (.agg (tmC x)) = some l := by
  have hkt : Tryz.prog.keyType 26 = true := by kernel_rfl
  have hf : (Value.agg (tmC x)).formed Tryz.prog 26 = true := by kernel_rfl
  have hsz : 2 ≤ Tryz.prog.types.size := of_decide_eq_true (by kernel_rfl)
  obtain ⟨l, hl⟩ := kl_tmo (Tryz.prog.types.size - 2) x h
  rw [show Tryz.prog.types.size - 2 + 3 = Tryz.prog.types.size + 1 by omega] at hl
  unfold keyOf
  simp only [Tryz.underlying26, hkt, hf, Bool.and_self, if_true, Value.cells, tmC_eq, hl, Option.map_some]
  exact ⟨_, rfl⟩
theorem equalT {x y : Tmo} (hx : x.wf) (hy : y.wf) (w : World) : (Op.equal 26 (.agg (tmC x)) (.agg (tmC y))).run Tryz.prog w = .ok (decide (x = y)) w := by
  obtain ⟨lx, h1⟩ := key_atT x hx
  obtain ⟨ly, h2⟩ := key_atT y hy
  obtain ⟨r, hr, hi⟩ := run_equal_deep (P := Tryz.prog) w (m := 4) (by omega) (by kernel_rfl) (by kernel_rfl) h1 h2
  have : r = decide (x = y) := by
    rw [Bool.eq_iff_iff, hi, decide_eq_true_eq]
    constructor
    · intro h
      rw [h] at h1
      exact tmC_inj (Value.agg.inj (kdT.inj h1 h2))
    · intro h; subst h; rw [h1] at h2; injection h2
  rw [hr, this]
theorem eqlT {x y : Tmo} (hx : x.wf) (hy : y.wf) (w : World) : (binOp .eql 26 (.agg (tmC x)) (.agg (tmC y))).run Tryz.prog w = .ok (.bool (decide (x = y))) w := by
  simp only [binOp, Sem.run_bind, equalT hx hy, Result.andThen_ok, Sem.run_pure]
theorem neqT {x y : Tmo} (hx : x.wf) (hy : y.wf) (w : World) : (binOp .neq 26 (.agg (tmC x)) (.agg (tmC y))).run Tryz.prog w = .ok (.bool (!decide (x = y))) w := by
  simp only [binOp, Sem.run_bind, equalT hx hy, Result.andThen_ok, Sem.run_pure]
theorem neqX {n : Nat} {x y : Txx} (hx : x.wf n) (hy : y.wf n) (hn : n ≤ maxLen) (w : World) : (binOp .neq 32 (.agg (txC x)) (.agg (txC y))).run Tryz.prog w = .ok (.bool (!decide (x = y))) w := by
  simp only [binOp, Sem.run_bind, equalX hx hy hn, Result.andThen_ok, Sem.run_pure]
/-- What a block's numbers and lists are bounded by. -/
structure Blo.wf (b : Blo) : Prop where
  view : inI b.view
  round : inI b.round
  height : inI b.height
  author : inI b.author
  par : b.par.wf
  proof : ∀ t ∈ b.proof, t.wf
  txs : ∀ t ∈ b.txs, t.wf 1000000
  np : b.proof.length ≤ 1000
  nt : b.txs.length ≤ 1000
theorem zeroB_wf : zeroB.wf := by
  refine ⟨?_, ?_, ?_, ?_, L11.zeroC_wf, ?_, ?_, ?_, ?_⟩ <;> simp [inI, zeroB]
/-- In w the slices P, T are the block's lists. -/
def Lies (w : World) (b : Blo) (P T : Value) : Prop :=
  ∃ A c B d, P = .slice A b.proof.length c ∧ T = .slice B b.txs.length d ∧ Rd tmL 10 w A b.proof ∧ Rd txL 7 w B b.txs
theorem Lies.below {w w' : World} {b : Blo} {P T : Value} (h : Lies w b P T) (hb : Below w.heap.size w w') : Lies w' b P T := by
  obtain ⟨A, c, B, d, h1, h2, h3, h4⟩ := h
  exact ⟨A, c, B, d, h1, h2, h3.below hb, h4.below hb⟩
theorem lies_zero (w : World) : Lies w zeroB (.slice none 0 0) (.slice none 0 0) := ⟨none, 0, none, 0, rfl, rfl, Rd.nil, Rd.nil⟩
theorem build_zeroB (w : World) : (Instr.build 30 #[]).run Tryz.prog w = .ok (.agg (bloC zeroB (.slice none 0 0) (.slice none 0 0))) w := run_build w _ _ _ (by kernel_rfl)
theorem blo_new (w : World) (ty : TypeId) (b : Blo) (P T : Value) : Blk (w.alloc (.cells (bloC b P T) ty)) w.heap.size ty (bloC b P T) := Blk.new _ _ _
theorem tmo_new (w : World) (ty : TypeId) (t : Tmo) : Blk (w.alloc (.cells (tmC t) ty)) w.heap.size ty (tmC t) := Blk.new _ _ _
theorem below_new (w : World) (o : Obj) : Below w.heap.size w (w.alloc o) := (Below.refl _ _).alloc (Nat.le_refl _) o
/-- The cells of a certificate in a block that holds a struct with it from place k on. -/
theorem sub_cells {w : World} {g : Nat} {ty : TypeId} {cs : Array Value} {c : Crt} {k : Nat} (h : Blk w g ty cs) (hk : ∀ j u, (crtL c)[j]? = some u → cs[k + j]? = some u) : ∀ j u, (crtL c)[j]? = some u → w.cell? ((⟨g, k, none⟩ : Addr).add j) = some u := by
  intro j u hj
  have h1 := hk j u hj
  have h2 := h.cell (k + j)
  have e : (⟨g, k, none⟩ : Addr).add j = ⟨g, k + j, none⟩ := by unfold Addr.add; split <;> simp_all
  rw [e, h2]
  exact h1
theorem par_at (b : Blo) (P T : Value) : ∀ j u, (crtL b.par)[j]? = some u → (bloC b P T)[4 + j]? = some u := by
  intro j u hj
  have hl : j < 8 := by
    rcases Nat.lt_or_ge j 8 with h | h
    · exact h
    · rw [List.getElem?_eq_none (by exact h)] at hj; cases hj
  obtain rfl | rfl | rfl | rfl | rfl | rfl | rfl | rfl : j = 0 ∨ j = 1 ∨ j = 2 ∨ j = 3 ∨ j = 4 ∨ j = 5 ∨ j = 6 ∨ j = 7 := by omega
  all_goals exact hj
theorem high_at (t : Tmo) : ∀ j u, (crtL t.high)[j]? = some u → (tmC t)[2 + j]? = some u := by
  intro j u hj
  have hl : j < 8 := by
    rcases Nat.lt_or_ge j 8 with h | h
    · exact h
    · rw [List.getElem?_eq_none (by exact h)] at hj; cases hj
  obtain rfl | rfl | rfl | rfl | rfl | rfl | rfl | rfl : j = 0 ∨ j = 1 ∨ j = 2 ∨ j = 3 ∨ j = 4 ∨ j = 5 ∨ j = 6 ∨ j = 7 := by omega
  all_goals exact hj
end Go.Proofs.YtgmejaiifibfoaaGreatDoor
