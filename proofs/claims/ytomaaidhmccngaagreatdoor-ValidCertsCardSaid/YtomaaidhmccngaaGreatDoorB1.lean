import Derived.Test.YtomaaidhmccngaaGreatDoorL11
import Derived.Test.YtomaaidhmccngaaGreatDoorRd
set_option linter.unusedSimpArgs false
set_option linter.unusedVariables false
set_option maxRecDepth 100000
set_option maxHeartbeats 16000000
namespace Go.Proofs.YtomaaidhmccngaaGreatDoor
open Go.RowKit Go.Lib
open L2 (chk vlu)
open L3 (encN encs rdN numS textS textV mostV mostS failS)
theorem qcj {e : Int} {p : List UInt8 × Int} (h : (failS e p).2 = 0) : p.2 = 0 /\ e = 0 /\ failS e p = p := by
 unfold L3.failS at h ⊢
 by_cases hc : p.2 ≠ 0 ∨ e = 0
 ·rw [if_pos hc] at h ⊢
  rcases hc with hc | hc
  ·exact absurd h hc
  ·exact ⟨h, hc, rfl⟩
 ·rw [if_neg hc] at h
  exact absurd (.inr h) hc
theorem qaS {p : List UInt8 × Int} (h : (numS p).2 = 0) : p.2 = 0 /\ p.1 = encN (numV p).toNat ++ (numS p).1 /\ 0 <= numV p /\ numV p <= 4611686018427387904 := by
 obtain ⟨k, s, e, hq⟩ : ∃ k s e, rdN 0 0 p.1 = (k, s, e) := ⟨_, _, _, rfl⟩
 unfold L3.numS at h ⊢
 unfold numV
 rw [hq] at h ⊢
 dsimp only at h ⊢
 by_cases he : e = 0
 ·subst he
  rw [if_pos rfl] at h ⊢
  obtain ⟨h1, h2, h3, h4⟩ := L3.qeN hq
  refine ⟨h, ?_, by omega, by omega⟩
  show p.1 = encN ((k : Int)).toNat ++ p.1.drop s
  rw [Int.toNat_natCast, h1, List.take_append_drop]
 ·rw [if_neg he] at h
  have := (qcj h).2.1
  omega
theorem qew {m : Int} {p : List UInt8 × Int} (h : (mostS m p).2 = 0) : (numS p).2 = 0 /\ mostV m p = numV p /\ mostS m p = numS p /\ numV p <= m := by
 unfold L3.mostS at h ⊢
 unfold L3.mostV numV
 by_cases hm : m < ((rdN 0 0 p.1).1 : Int)
 ·rw [if_pos hm] at h
  have := (qcj h).2.1
  omega
 ·rw [if_neg hm] at h ⊢
  rw [if_neg hm]
  exact ⟨h, rfl, rfl, by omega⟩
theorem qc9 {p : List UInt8 × Int} (h : (textS p).2 = 0) : p.2 = 0 /\ p.1 = txtB (textV p) ++ (textS p).1 := by
 unfold L3.textS at h ⊢
 unfold L3.textV
 by_cases hl : ((mostS 65536 p).1.length : Int) < mostV 65536 p
 ·rw [if_pos hl] at h
  have := (qcj h).2.1
  omega
 ·rw [if_neg hl] at h ⊢
  rw [if_neg hl]
  obtain ⟨h1, h2, h3, h4⟩ := qew (m := 65536) (p := p) h
  obtain ⟨k1, k2, k3, k4⟩ := qaS h1
  rw [h3] at hl ⊢
  rw [h2] at hl ⊢
  refine ⟨k1, ?_⟩
  have e : (List.take (numV p).toNat (numS p).1).length = (numV p).toNat := by rw [List.length_take]; omega
  unfold txtB
  rw [e, List.append_assoc, List.take_append_drop]
  exact k2
theorem qhl {t : Txx} {p : List UInt8 × Int} (h : (endT t p).2.2 = 0) : p.2 = 0 /\ right t = true /\ endT t p = (t, p) := by
 unfold endT at h ⊢
 by_cases hc : p.2 ≠ 0 ∨ right t = false
 ·rw [if_pos hc] at h
  have := (qcj h).2.1
  omega
 ·rw [if_neg hc] at h ⊢
  exact ⟨h, by cases hr : right t with | true => rfl | false => exact absurd (.inr hr) hc, rfl⟩
theorem qfz {p : List UInt8 × Int} (h : (takeT p).2.2 = 0) : p.2 = 0 /\ right (takeT p).1 = true /\ p.1 = bytesT (takeT p).1 ++ (takeT p).2.1 := by
 unfold takeT at h ⊢
 by_cases h0 : numV p ≠ 1 /\ numV p ≠ 2
 ·rw [if_pos h0] at h
  have := (qcj h).2.1
  omega
 ·rw [if_neg h0] at h ⊢
  generalize hp1 : numS p = p1 at h ⊢
  generalize hp2 : numS p1 = p2 at h ⊢
  generalize hp3 : textS p2 = p3 at h ⊢
  by_cases h1 : numV p = 1
  ·rw [if_pos h1] at h ⊢
   obtain ⟨k4, r4, e4⟩ := qhl h
   rw [e4]
   obtain ⟨k3, b3, _⟩ := qaS k4
   generalize hp4 : textS p3 = p4 at *
   obtain ⟨k2, b2⟩ := qc9 (p := p3) (by rw [hp4]; exact k3)
   obtain ⟨k1, b1⟩ := qc9 (p := p2) (by rw [hp3]; exact k2)
   obtain ⟨k0, b0, _⟩ := qaS (p := p1) (by rw [hp2]; exact k1)
   obtain ⟨k, b, _⟩ := qaS (p := p) (by rw [hp1]; exact k0)
   refine ⟨k, r4, ?_⟩
   rw [b, hp1, b0, hp2, b1, hp3, b2, hp4, b3, h1]
   unfold bytesT
   rw [if_pos rfl]
   simp
  ·rw [if_neg h1] at h ⊢
   have h2 : numV p = 2 := by
    rcases Classical.em (numV p = 2) with h2 | h2
    ·exact h2
    ·exact absurd ⟨h1, h2⟩ h0
   obtain ⟨k4, r4, e4⟩ := qhl h
   rw [e4]
   generalize hp4 : textS p3 = p4 at *
   obtain ⟨k3, b3⟩ := qc9 (p := p4) k4
   obtain ⟨k2, b2⟩ := qc9 (p := p3) (by rw [hp4]; exact k3)
   obtain ⟨k1, b1⟩ := qc9 (p := p2) (by rw [hp3]; exact k2)
   obtain ⟨k0, b0, _⟩ := qaS (p := p1) (by rw [hp2]; exact k1)
   obtain ⟨k, b, _⟩ := qaS (p := p) (by rw [hp1]; exact k0)
   refine ⟨k, r4, ?_⟩
   rw [b, hp1, b0, hp2, b1, hp3, b2, hp4, b3, h2]
   unfold bytesT
   rw [if_neg (show ¬ (2 : Int) = 1 by decide)]
   simp
open L11 (Crt readC takeC fitV fitU nS mayV bytesV numsV sgV)
theorem qb9 {n : Int} (h0 : 0 <= n) (h : 0 <= fitV n) : fitV n = n := by unfold L11.fitV at h ⊢; split at h <;> (first | omega | rfl)
theorem qes {n : Int} (h0 : 0 <= n) (h : fitU n < 1024) : (fitU n : Int) = n := by
 unfold L11.fitU at h ⊢
 split at h
 ·omega
 ·rename_i hn; rw [if_neg hn]; omega
theorem nV (p : List UInt8 × Int) : L11.numV p = numV p := rfl
theorem qbm {k : Nat} {p : List UInt8 × Int} (h : (nS (k + 1) p).2 = 0) : (nS k p).2 = 0 /\ (nS k p).1 = encN (numV (nS k p)).toNat ++ (nS (k + 1) p).1 := by
 have := qaS (p := nS k p) h
 exact ⟨this.1, this.2.1⟩
theorem qfx {p : List UInt8 × Int} (h : (takeC p).2.2 = 0) : p.2 = 0 /\ mayV (takeC p).1 = true /\ p.1 = bytesV (takeC p).1 ++ (takeC p).2.1 := by
 have e : (readC p).2.2 = 0 /\ mayV (readC p).1 = true /\ takeC p = readC p := by
  unfold L11.takeC at h ⊢
  by_cases hc : (readC p).2.2 ≠ 0 ∨ mayV (readC p).1 = false
  ·rw [if_pos hc] at h
   have := (qcj h).2.1
   omega
  ·rw [if_neg hc] at h ⊢
   exact ⟨h, by cases hr : mayV (readC p).1 with | true => rfl | false => exact absurd (.inr hr) hc, rfl⟩
 obtain ⟨h2, hm, ht⟩ := e
 rw [ht]
 clear ht h
 have hn : ∀ k, 0 <= L11.numV (nS k p) := fun k => (L11.qdP _).1
 have hn0 : 0 <= L11.numV p := (L11.qdP _).1
 unfold L11.readC at h2 hm ⊢
 by_cases h1 : fitV (L11.numV p) = 1
 ·rw [if_pos h1] at h2 hm ⊢
  obtain ⟨hs, -, -, -⟩ := L11.qeu hm rfl
  obtain ⟨a1, a2, a3, -, a4⟩ := L11.qbx hs
  dsimp only at h2 a1 a2 a3 a4
  have v0 := qb9 hn0 (by omega)
  have v1 := qb9 (hn 1) (by omega)
  have v2 := qb9 (hn 2) (by omega)
  have v3 := qb9 (hn 3) (by omega)
  have v4 := qes (hn 4) a4
  obtain ⟨k4, b4⟩ := qbm (k := 4) h2
  obtain ⟨k3, b3⟩ := qbm (k := 3) k4
  obtain ⟨k2, b2⟩ := qbm (k := 2) k3
  obtain ⟨k1, b1⟩ := qbm (k := 1) k2
  obtain ⟨k0, b0⟩ := qbm (k := 0) k1
  refine ⟨k0, hm, ?_⟩
  have b0' : p.1 = encN (1 : Int).toNat ++ (nS 1 p).1 := by rw [show (1 : Int) = L11.numV p by rw [<- v0]; exact h1.symm]; exact b0
  rw [v1, v2, v3]
  show p.1 = bytesV _ ++ (nS 5 p).1
  rw [b0', b1, b2, b3, b4]
  unfold L11.bytesV L11.numsV
  rw [if_neg (show ¬ (1 : Int) = 0 by decide), if_pos rfl]
  dsimp only
  rw [v4]
  simp [L3.encs, nV]
 ·rw [if_neg h1] at h2 hm ⊢
  by_cases h3 : fitV (L11.numV p) = 2
  ·rw [if_pos h3] at h2 hm ⊢
   obtain ⟨-, hs, c1, c2, c3⟩ := L11.qcT hm (show (2 : Int) ≠ 0 by decide) (show (2 : Int) ≠ 1 by decide)
   obtain ⟨a1, a2, a3, -, a4⟩ := L11.qbx hs
   dsimp only at h2 a1 a2 a3 a4 c1 c2 c3
   have v0 := qb9 hn0 (by omega)
   have v1 := qb9 (hn 1) (by omega)
   have v2 := qb9 (hn 2) (by omega)
   have v3 := qb9 (hn 3) (by omega)
   have v4 := qes (hn 4) a4
   have v5 := qb9 (hn 5) (by omega)
   have v6 := qb9 (hn 6) (by omega)
   have v7 := qes (hn 7) c3
   obtain ⟨k7, b7⟩ := qbm (k := 7) h2
   obtain ⟨k6, b6⟩ := qbm (k := 6) k7
   obtain ⟨k5, b5⟩ := qbm (k := 5) k6
   obtain ⟨k4, b4⟩ := qbm (k := 4) k5
   obtain ⟨k3, b3⟩ := qbm (k := 3) k4
   obtain ⟨k2, b2⟩ := qbm (k := 2) k3
   obtain ⟨k1, b1⟩ := qbm (k := 1) k2
   obtain ⟨k0, b0⟩ := qbm (k := 0) k1
   refine ⟨k0, hm, ?_⟩
   have b0' : p.1 = encN (2 : Int).toNat ++ (nS 1 p).1 := by rw [show (2 : Int) = L11.numV p by rw [<- v0]; exact h3.symm]; exact b0
   rw [v1, v2, v3, v5, v6]
   show p.1 = bytesV _ ++ (nS 8 p).1
   rw [b0', b1, b2, b3, b4, b5, b6, b7]
   unfold L11.bytesV L11.numsV
   rw [if_neg (show ¬ (2 : Int) = 0 by decide), if_neg (show ¬ (2 : Int) = 1 by decide)]
   dsimp only
   rw [v4, v7]
   simp [L3.encs, nV]
  ·rw [if_neg h3] at h2 hm ⊢
   have hk : fitV (L11.numV p) = 0 := by
    unfold L11.mayV at hm
    dsimp only at hm
    by_cases hz : fitV (L11.numV p) = 0
    ·exact hz
    ·rw [if_neg hz, if_neg h1, if_neg h3] at hm; cases hm
   have v0 := qb9 hn0 (by omega)
   obtain ⟨k0, b0⟩ := qbm (k := 0) h2
   refine ⟨k0, hm, ?_⟩
   have b0' : p.1 = encN (0 : Int).toNat ++ (nS 1 p).1 := by rw [show (0 : Int) = L11.numV p by rw [<- v0]; exact hk.symm]; exact b0
   show p.1 = bytesV _ ++ (nS 1 p).1
   rw [hk]
   unfold L11.bytesV L11.numsV
   rw [if_pos rfl]
   rw [b0']
   simp [L3.encs]
end Go.Proofs.YtomaaidhmccngaaGreatDoor
namespace Go.Proofs.YtomaaidhmccngaaGreatDoor
open Go.RowKit Go.Lib
open L3 (encN encs rdN numS textS textV mostV mostS failS doneV)
open L11 (Crt zeroC takeC mayV bytesV okW)
structure Tmo where
 signer : Int
 view : Int
 high : Crt
deriving DecidableEq, Inhabited
structure Blo where
 view : Int
 round : Int
 height : Int
 author : Int
 par : Crt
 proof : List Tmo
 txs : List Txx
deriving DecidableEq, Inhabited
def zeroT : Tmo := ⟨0, 0, zeroC⟩
def zeroB : Blo := ⟨0, 0, 0, 0, zeroC, [], []⟩
def openV (c : Crt) (v : Int) : Bool := mayV c && (if c.kind = 2 then !decide (c.co = 0) && decide (c.view < v) else decide (c.view <= v))
def tmoV (t : Tmo) : Bool := okW t.signer 0 9 && okW t.view 1 1048576 && openV t.high t.view
def rightL (l : List Txx) : Bool := decide (l.length <= 8) && l.all right
def headV (b : Blo) : Bool := okW b.view 1 1048576 && okW b.author 0 9 && okW b.height 0 3 && rightL b.txs
def followsV (b : Blo) : Bool :=
 if b.height <= 1 then openV b.par b.view
 else mayV b.par && decide (b.par.kind = 2) && decide (b.par.co = 0) && decide (b.par.view = b.view) && decide (b.par.author = b.author) && decide (b.par.height = b.height - 1)
def parentV (b : Blo) : Bool := followsV b && decide (b.round = b.par.round + 1) && decide (b.round <= 1073741824)
def prevS (l : List Tmo) : Nat -> Int
 | 0 => -1
 | k + 1 => (l[k]!).signer
def riseAt (v : Int) (l : List Tmo) (k : Nat) : Bool := tmoV (l[k]!) && decide ((l[k]!).view = v) && decide (prevS l k < (l[k]!).signer)
def risesV (v : Int) (l : List Tmo) : Bool := (List.range l.length).all (riseAt v l)
def provenV (b : Blo) : Bool := if b.height = 1 then decide (1 <= b.proof.length /\ b.proof.length <= 10) && risesV b.view b.proof else b.proof.isEmpty
def checkV (b : Blo) : Int := if headV b = false then 120 else if parentV b = false then 122 else if provenV b = false then 121 else 0
theorem qb3 {b : Blo} (h : checkV b = 0) : headV b = true /\ parentV b = true /\ provenV b = true := by
 unfold checkV at h
 cases h1 : headV b <;> cases h2 : parentV b <;> cases h3 : provenV b <;> simp [h1, h2, h3] at h ⊢
theorem qj3 {v : Int} {l : List Tmo} (h : risesV v l = true) {k : Nat} (hk : k < l.length) : riseAt v l k = true := by
 unfold risesV at h
 rw [List.all_eq_true] at h
 exact h k (List.mem_range.2 hk)
theorem qdq {v : Int} {l : List Tmo} {k : Nat} (hk : k < l.length) (h : riseAt v l k = false) : risesV v l = false := by
 unfold risesV
 rw [List.all_eq_false]
 exact ⟨k, List.mem_range.2 hk, by rw [h]; simp⟩
theorem qhL {v : Int} {l : List Tmo} (h : ∀ k, k < l.length -> riseAt v l k = true) : risesV v l = true := by
 unfold risesV
 rw [List.all_eq_true]
 exact fun k hk => h k (List.mem_range.1 hk)
theorem qei {l : List Tmo} {k : Nat} (hk : k < l.length) : l[k]! = l[k] := getElem!_pos l k hk
theorem qc6 {b : Blo} (h : provenV b = true) : ∀ t ∈ b.proof, tmoV t = true /\ t.view = b.view := by
 intro t ht
 unfold provenV at h
 split at h
 ·simp only [Bool.and_eq_true] at h
  obtain ⟨k, hk, rfl⟩ := List.getElem_of_mem ht
  have := qj3 h.2 hk
  unfold riseAt at this
  rw [qei hk] at this
  simp only [Bool.and_eq_true, decide_eq_true_eq] at this
  exact this.1
 ·rw [List.isEmpty_iff] at h; rw [h] at ht; cases ht
theorem qcZ {b : Blo} (h : provenV b = true) : b.proof.length <= 10 := by
 unfold provenV at h
 split at h
 ·simp only [Bool.and_eq_true, decide_eq_true_eq] at h; omega
 ·rw [List.isEmpty_iff] at h; rw [h]; simp
def tmB (t : Tmo) : List UInt8 := encN t.signer.toNat ++ bytesV t.high
def listB {α : Type} (f : α -> List UInt8) (l : List α) : List UInt8 := encN l.length ++ (l.map f).flatten
def bytesB (b : Blo) : List UInt8 := encs [b.view, b.round, b.height, b.author] ++ (bytesV b.par ++ (listB tmB b.proof ++ listB bytesT b.txs))
section
variable {α : Type} (one : List UInt8 × Int -> α × (List UInt8 × Int))
def itG : Nat -> List UInt8 × Int -> List UInt8 × Int
 | 0, p => p
 | k + 1, p => (one (itG k p)).2
def listG (n : Nat) (p : List UInt8 × Int) : List α := (List.range n).map fun k => (one (itG one k p)).1
theorem qbI (n : Nat) (p : List UInt8 × Int) : listG one (n + 1) p = listG one n p ++ [(one (itG one n p)).1] := by unfold listG; rw [List.range_succ, List.map_append]; rfl
theorem qbh (n : Nat) (p : List UInt8 × Int) : (listG one n p).length = n := by unfold listG; simp
theorem qhv (f : α -> List UInt8) (hc : ∀ q, (one q).2.2 = 0 -> q.2 = 0 /\ q.1 = f (one q).1 ++ (one q).2.1) (p : List UInt8 × Int) : ∀ n, (itG one n p).2 = 0 -> p.2 = 0 /\ p.1 = ((listG one n p).map f).flatten ++ (itG one n p).1
 | 0, h => ⟨h, by simp [listG, itG]⟩
 | n + 1, h => by
   obtain ⟨h1, h2⟩ := hc (itG one n p) h
   obtain ⟨h3, h4⟩ := qhv f hc p n h1
   refine ⟨h3, ?_⟩
   rw [qbI, List.map_append, List.flatten_append, List.append_assoc]
   show p.1 = _ ++ (_ ++ (one (itG one n p)).2.1)
   rw [List.map_singleton, List.flatten_singleton, <- h2]
   exact h4
theorem qjh (f : α -> List UInt8) (L : List α) (rest : List UInt8) (hb : ∀ t ∈ L, ∀ r, one (f t ++ r, 0) = (t, (r, 0))) : ∀ n, n <= L.length -> itG one n ((L.map f).flatten ++ rest, 0) = (((L.drop n).map f).flatten ++ rest, 0) /\ listG one n ((L.map f).flatten ++ rest, 0) = L.take n
 | 0, _ => by simp [itG, listG]
 | n + 1, h => by
   obtain ⟨h1, h2⟩ := qjh f L rest hb n (by omega)
   have hd : ((L.drop n).map f).flatten ++ rest = f L[n] ++ (((L.drop (n + 1)).map f).flatten ++ rest) := by
    rw [List.drop_eq_getElem_cons (show n < L.length by omega), List.map_cons, List.flatten_cons, List.append_assoc]
   have h3 := hb L[n] (List.getElem_mem _) (((L.drop (n + 1)).map f).flatten ++ rest)
   constructor
   ·show (one (itG one n _)).2 = _
    rw [h1, hd, h3]
   ·rw [qbI, h1, h2, hd, h3, List.take_succ_eq_append_getElem (show n < L.length by omega)]
theorem qe8 (f : α -> List UInt8) (L : List α) (rest : List UInt8) (hb : ∀ t ∈ L, ∀ r, one (f t ++ r, 0) = (t, (r, 0))) : itG one L.length ((L.map f).flatten ++ rest, 0) = (rest, 0) /\ listG one L.length ((L.map f).flatten ++ rest, 0) = L := by
 obtain ⟨h1, h2⟩ := qjh one f L rest hb L.length (Nat.le_refl _)
 rw [h1, h2]
 simp
end
def fitB (n : Int) : Int := if 1073741824 < n then -1 else n
theorem qfa (n : Int) (h : 0 <= n) : inI (fitB n) := by unfold fitB inI; split <;> omega
theorem qbk {n : Int} (h : n <= 1073741824) : fitB n = n := by unfold fitB; rw [if_neg (by omega)]
theorem qbw {n : Int} (h : 0 <= fitB n) : fitB n = n := by unfold fitB at h ⊢; split at h <;> (first | omega | rfl)
def oneT (v : Int) (p : List UInt8 × Int) : Tmo × (List UInt8 × Int) := (⟨fitB (numV p), v, (takeC (numS p)).1⟩, (takeC (numS p)).2)
def rS (p : List UInt8 × Int) : List UInt8 × Int := numS (numS (numS (numS p)))
def readB (p : List UInt8 × Int) : Blo × (List UInt8 × Int) :=
 let v := fitB (numV p)
 let c := takeC (rS p)
 let s := mostS 10 c.2
 let n := (mostV 10 c.2).toNat
 let s2 := itG (oneT v) n s
 let m := (mostV 8 s2).toNat
 let s3 := mostS 8 s2
 (⟨v, fitB (numV (numS p)), fitB (numV (numS (numS p))), fitB (numV (numS (numS (numS p)))), c.1, listG (oneT v) n s, listG takeT m s3⟩, itG takeT m s3)
def takeB (p : List UInt8 × Int) : Blo × (List UInt8 × Int) :=
 if (failS (checkV (readB p).1) (readB p).2).2 ≠ 0 then (zeroB, failS (checkV (readB p).1) (readB p).2) else ((readB p).1, failS (checkV (readB p).1) (readB p).2)
def endP (z : Blo × (List UInt8 × Int)) : Blo × Int := if doneV z.2 ≠ 0 then (zeroB, doneV z.2) else (z.1, 0)
def parseB (s : List UInt8) : Blo × Int := endP (takeB (s, 0))
theorem qly {z : Blo × (List UInt8 × Int)} (h : (endP z).2 = 0) : doneV z.2 = 0 /\ endP z = (z.1, 0) := by
 unfold endP at h ⊢
 by_cases hd : doneV z.2 ≠ 0
 ·rw [if_pos hd] at h; exact absurd h hd
 ·rw [if_neg hd]; exact ⟨Decidable.not_not.1 hd, rfl⟩
theorem qh0 {n lo hi : Int} (h : okW n lo hi = true) : lo <= n /\ n <= hi := of_decide_eq_true h
theorem qbD {t : Tmo} (h : tmoV t = true) : (0 <= t.signer /\ t.signer <= 9) /\ (1 <= t.view /\ t.view <= 1048576) /\ openV t.high t.view = true /\ mayV t.high = true := by
 unfold tmoV at h
 simp only [Bool.and_eq_true] at h
 refine ⟨qh0 h.1.1, qh0 h.1.2, h.2, ?_⟩
 have := h.2
 unfold openV at this
 simp only [Bool.and_eq_true] at this
 exact this.1
theorem qb4 {b : Blo} (h : headV b = true) : (1 <= b.view /\ b.view <= 1048576) /\ (0 <= b.author /\ b.author <= 9) /\ (0 <= b.height /\ b.height <= 3) /\ b.txs.length <= 8 /\ ∀ t ∈ b.txs, right t = true := by
 unfold headV rightL at h
 simp only [Bool.and_eq_true, decide_eq_true_eq, List.all_eq_true] at h
 exact ⟨qh0 h.1.1.1, qh0 h.1.1.2, qh0 h.1.2, h.2.1, h.2.2⟩
theorem qd2 {b : Blo} (h : followsV b = true) : mayV b.par = true := by
 unfold followsV at h
 split at h
 ·unfold openV at h; simp only [Bool.and_eq_true] at h; exact h.1
 ·simp only [Bool.and_eq_true] at h; exact h.1.1.1.1.1
theorem qfh {c : Crt} (h : mayV c = true) : 0 <= c.round /\ c.round <= 1073741824 := by
 by_cases h0 : c.kind = 0
 ·rw [L11.qdL h h0]; exact ⟨by decide, by decide⟩
 ·by_cases h1 : c.kind = 1
  ·have := (L11.qbx (L11.qeu h h1).1).2.2.1; omega
  ·have := (L11.qbx (L11.qcT h h0 h1).2.1).2.2.1; omega
theorem qbb {b : Blo} (h : parentV b = true) : mayV b.par = true /\ followsV b = true /\ b.round = b.par.round + 1 /\ 1 <= b.round /\ b.round <= 1073741824 := by
 unfold parentV at h
 simp only [Bool.and_eq_true, decide_eq_true_eq] at h
 have hm := qd2 h.1.1
 have := qfh hm
 exact ⟨hm, h.1.1, h.1.2, by omega, h.2⟩
theorem qlX (v : Int) (t : Tmo) (h : tmoV t = true) (hv : t.view = v) (r : List UInt8) : oneT v (tmB t ++ r, 0) = (t, (r, 0)) := by
 obtain ⟨h1, h2, h3, h4⟩ := qbD h
 have e : tmB t ++ r = encN t.signer.toNat ++ (bytesV t.high ++ r) := by unfold tmB; rw [List.append_assoc]
 obtain ⟨n1, n2⟩ := qbr t.signer.toNat (bytesV t.high ++ r) (by omega)
 have hc := L11.qdu t.high r h4
 unfold oneT
 rw [e, n1, n2, hc, Int.toNat_of_nonneg h1.1, qbk (by omega), <- hv]
theorem qku (v : Int) (q : List UInt8 × Int) (h : (oneT v q).2.2 = 0) (hs : 0 <= (oneT v q).1.signer) : q.2 = 0 /\ q.1 = tmB (oneT v q).1 ++ (oneT v q).2.1 := by
 unfold oneT at h hs ⊢
 dsimp only at h hs ⊢
 obtain ⟨k1, k2, k3⟩ := qfx h
 obtain ⟨n1, n2, n3, n4⟩ := qaS k1
 refine ⟨n1, ?_⟩
 unfold tmB
 dsimp only
 rw [qbw hs, List.append_assoc, <- k3]
 exact n2
theorem qcl {α : Type} (f : α -> List UInt8) (n : Nat) : ∀ L : List α, (∀ t ∈ L, (f t).length <= n) -> ((L.map f).flatten).length <= L.length * n
 | [], _ => by simp
 | t :: L, h => by
   have h1 := h t (List.mem_cons_self ..)
   have h2 := qcl f n L fun x hx => h x (List.mem_cons_of_mem _ hx)
   rw [List.map_cons, List.flatten_cons, List.length_append, List.length_cons, Nat.add_mul]
   omega
theorem encN9 {n : Nat} (h : n <= 4611686018427387904) : (encN n).length <= 9 := L3.qbV h
theorem qeR {s : List UInt8} (h : s.length <= 128) : (txtB s).length <= 137 := by
 unfold txtB; rw [List.length_append]; have := encN9 (n := s.length) (by omega); omega
theorem qen {t : Txx} (h : right t = true) : (bytesT t).length <= 429 := by
 obtain ⟨_, f1, f2, f3, f4, _, _⟩ := qeO h
 have hn : posN t.nonce = true := by
  by_cases hk : t.kind = 1
  ·exact (qcf h hk).1
  ·exact (qc7 h hk).1
 have hn := qbB hn
 have hk : t.kind.toNat <= 2 := by
  by_cases hk : t.kind = 1
  ·rw [hk]; decide
  ·rw [(qc7 h hk).2.2.2.2.2.2]; decide
 have a1 := encN9 (n := t.kind.toNat) (by omega)
 have a2 := encN9 (n := t.nonce.toNat) (by omega)
 have t1 := qeR f1
 have t2 := qeR f2
 have t3 := qeR f3
 have t4 := qeR f4
 unfold bytesT
 rw [List.length_append, List.length_append, List.length_append]
 split
 ·rename_i hk1
  have ha := qbB (qcf h hk1).2.2.2.1
  have a3 := encN9 (n := t.amount.toNat) (by omega)
  rw [List.length_append]; omega
 ·rw [List.length_append]; omega
theorem qiL {t : Tmo} (h : tmoV t = true) : (tmB t).length <= 81 := by
 obtain ⟨h1, h2, h3, h4⟩ := qbD h
 have a1 := encN9 (n := t.signer.toNat) (by omega)
 have a2 := L11.qeT h4
 unfold tmB
 rw [List.length_append]; omega
theorem qdg {b : Blo} (h : checkV b = 0) : (bytesB b).length <= 5000 := by
 obtain ⟨hh, hp, hr⟩ := qb3 h
 obtain ⟨h1, h2, h3, h4, h5⟩ := qb4 hh
 obtain ⟨p1, p2, p3, p4, p5⟩ := qbb hp
 have q1 := qc6 hr
 have q2 := qcZ hr
 have l1 := L11.qeT p1
 have l2 := qcl tmB 81 b.proof fun t ht => qiL (q1 t ht).1
 have l3 := qcl bytesT 429 b.txs fun t ht => qen (h5 t ht)
 have l4 := L3.qgt [b.view, b.round, b.height, b.author] (by
  have e : ∀ n : Int, 0 <= n -> n <= 4611686018427387904 -> L3.okN n = true := fun n a b => L3.qbu a b
  simp [e b.view (by omega) (by omega), e b.round (by omega) (by omega), e b.height (by omega) (by omega), e b.author (by omega) (by omega)])
 have l5 := encN9 (n := b.proof.length) (by omega)
 have l6 := encN9 (n := b.txs.length) (by omega)
 unfold bytesB listB
 simp only [List.length_append] at *
 have e4 : [b.view, b.round, b.height, b.author].length = 4 := rfl
 rw [e4] at l4
 have : b.proof.length * 81 <= 810 := by omega
 have : b.txs.length * 429 <= 3432 := by omega
 omega
theorem qkL (b : Blo) (rest : List UInt8) (h : checkV b = 0) : takeB (bytesB b ++ rest, 0) = (b, (rest, 0)) := by
 obtain ⟨hh, hp, hr⟩ := qb3 h
 obtain ⟨h1, h2, h3, h4, h5⟩ := qb4 hh
 obtain ⟨p1, p2, p3, p4, p5⟩ := qbb hp
 have q1 := qc6 hr
 have q2 := qcZ hr
 obtain ⟨l8, e8⟩ := nm ((b.txs.map bytesT).flatten ++ rest)
 obtain ⟨l7, e7⟩ := nm (encN b.txs.length ++ l8)
 obtain ⟨l6, e6⟩ := nm ((b.proof.map tmB).flatten ++ l7)
 obtain ⟨l5, e5⟩ := nm (encN b.proof.length ++ l6)
 obtain ⟨l4, e4⟩ := nm (bytesV b.par ++ l5)
 obtain ⟨l3, e3⟩ := nm (encN b.author.toNat ++ l4)
 obtain ⟨l2, e2⟩ := nm (encN b.height.toNat ++ l3)
 obtain ⟨l1, e1⟩ := nm (encN b.round.toNat ++ l2)
 have e : bytesB b ++ rest = encN b.view.toNat ++ l1 := by
  rw [e1, e2, e3, e4, e5, e6, e7, e8]; unfold bytesB listB; simp [L3.encs]
 obtain ⟨v0, s0⟩ := qbr b.view.toNat l1 (by omega)
 obtain ⟨v1, s1⟩ := qbr b.round.toNat l2 (by omega)
 obtain ⟨v2, s2⟩ := qbr b.height.toNat l3 (by omega)
 obtain ⟨v3, s3⟩ := qbr b.author.toNat l4 (by omega)
 obtain ⟨v5, s5⟩ := qbr b.proof.length l6 (by omega)
 obtain ⟨v7, s7⟩ := qbr b.txs.length l8 (by omega)
 have hc := L11.qdu b.par l5 p1
 rw [<- e1] at v1 s1
 rw [<- e2] at v2 s2
 rw [<- e3] at v3 s3
 rw [<- e4] at hc
 rw [<- e5] at v5 s5
 rw [<- e7] at v7 s7
 rw [Int.toNat_of_nonneg (by omega)] at v0 v1 v2 v3
 have m5 : mostV 10 (l5, 0) = b.proof.length /\ mostS 10 (l5, 0) = (l6, 0) := by
  have : ((rdN 0 0 l5).1 : Int) = b.proof.length := v5
  unfold L3.mostV L3.mostS
  dsimp only
  rw [this, if_neg (by omega), if_neg (by omega)]
  exact ⟨rfl, s5⟩
 have m7 : mostV 8 (l7, 0) = b.txs.length /\ mostS 8 (l7, 0) = (l8, 0) := by
  have : ((rdN 0 0 l7).1 : Int) = b.txs.length := v7
  unfold L3.mostV L3.mostS
  dsimp only
  rw [this, if_neg (by omega), if_neg (by omega)]
  exact ⟨rfl, s7⟩
 obtain ⟨i1, i2⟩ := qe8 (oneT b.view) tmB b.proof l7 (fun t ht r => qlX b.view t (q1 t ht).1 (q1 t ht).2 r)
 obtain ⟨j1, j2⟩ := qe8 takeT bytesT b.txs rest (fun t ht r => qdu t r (h5 t ht))
 rw [<- e6] at i1 i2
 rw [<- e8] at j1 j2
 have hR : readB (bytesB b ++ rest, 0) = (b, (rest, 0)) := by
  unfold readB rS
  rw [e]
  simp only [v0, s0, v1, s1, v2, s2, v3, s3, hc, m5, m7, Int.toNat_natCast, qbk (show b.view <= 1073741824 by omega), qbk (show b.round <= 1073741824 by omega), qbk (show b.height <= 1073741824 by omega), qbk (show b.author <= 1073741824 by omega), i1, i2, j1, j2]
 unfold takeB
 rw [hR]
 dsimp only
 rw [h]
 have : failS 0 (rest, (0 : Int)) = (rest, 0) := by unfold L3.failS; rw [if_pos (.inr rfl)]
 rw [this, if_neg (fun h => h rfl)]
theorem pair_eta {α β : Type} (x : α × β) : x = (x.1, x.2) := by cases x; rfl
theorem qd5 (p : List UInt8 × Int) : ∃ v c q s n s2 m s3, v = fitB (numV p) /\ takeC (rS p) = (c, q) /\ s = mostS 10 q /\ n = (mostV 10 q).toNat /\ s2 = itG (oneT v) n s /\ m = (mostV 8 s2).toNat /\ s3 = mostS 8 s2 /\
 readB p = (⟨v, fitB (numV (numS p)), fitB (numV (numS (numS p))), fitB (numV (numS (numS (numS p)))), c, listG (oneT v) n s, listG takeT m s3⟩, itG takeT m s3) :=
 ⟨fitB (numV p), (takeC (rS p)).1, (takeC (rS p)).2, _, _, _, _, _, rfl, pair_eta _, rfl, rfl, rfl, rfl, rfl, by unfold readB; rfl⟩
theorem qlI (v : Int) (s : List UInt8 × Int) (N : Nat) (hs : ∀ t ∈ listG (oneT v) N s, 0 <= t.signer) : ∀ n, n <= N -> (itG (oneT v) n s).2 = 0 -> s.2 = 0 /\ s.1 = ((listG (oneT v) n s).map tmB).flatten ++ (itG (oneT v) n s).1 := by
 intro n
 induction n with
 | zero => intro _ h; exact ⟨h, by simp [listG, itG]⟩
 | succ n ih =>
   intro hn h
   have hm : (oneT v (itG (oneT v) n s)).1 ∈ listG (oneT v) N s := by
    unfold listG
    exact List.mem_map.2 ⟨n, List.mem_range.2 hn, rfl⟩
   obtain ⟨c1, c2⟩ := qku _ _ h (hs _ hm)
   obtain ⟨c3, c4⟩ := ih (Nat.le_of_succ_le hn) c1
   refine ⟨c3, ?_⟩
   rw [qbI, List.map_append, List.flatten_append, List.append_assoc, List.map_singleton, List.flatten_singleton]
   show _ = _ ++ (_ ++ (oneT v (itG (oneT v) n s)).2.1)
   rw [<- c2]
   exact c4
theorem qiK {p : List UInt8 × Int} (h : (takeB p).2.2 = 0) : p.2 = 0 /\ checkV (takeB p).1 = 0 /\ p.1 = bytesB (takeB p).1 ++ (takeB p).2.1 := by
 have e : takeB p = readB p /\ (readB p).2.2 = 0 /\ checkV (readB p).1 = 0 := by
  unfold takeB at h ⊢
  generalize readB p = z at h ⊢
  obtain ⟨zb, zq⟩ := z
  dsimp only at h ⊢
  generalize checkV zb = e at h ⊢
  by_cases hc : (failS e zq).2 ≠ 0
  ·rw [if_pos hc] at h; exact absurd h hc
  ·rw [if_neg hc] at h ⊢
   obtain ⟨f1, f2, f3⟩ := qcj h
   exact ⟨by rw [f3], f1, f2⟩
 obtain ⟨ht, h2, hk⟩ := e
 rw [ht]
 clear ht h
 obtain ⟨v, c, q, s, n, s2, m, s3, ev, ec, es, en, es2, em, es3, hz⟩ := qd5 p
 rw [hz] at h2 hk ⊢
 clear hz
 dsimp only at h2 hk ⊢
 obtain ⟨hh, hp, hr⟩ := qb3 hk
 have F1 := qb4 hh
 have F2 := qbb hp
 have q1 := qc6 hr
 dsimp only at F1 F2 q1
 have k8 := qhv takeT bytesT (fun q hq => ⟨(qfz hq).1, (qfz hq).2.2⟩) s3 m h2
 have k7 := qew (m := 8) (p := s2) (by rw [<- es3]; exact k8.1)
 have n7 := qaS k7.1
 have lT := qbh takeT m s3
 have lL := qbh (oneT v) n s
 have k6 := qlI v s n (fun t ht => (qbD (q1 t ht).1).1.1) n (Nat.le_refl _) (by rw [<- es2]; exact n7.1)
 have k5 := qew (m := 10) (p := q) (by rw [<- es]; exact k6.1)
 have n5 := qaS k5.1
 have k4 := qfx (p := rS p) (by rw [ec]; exact n5.1)
 have n3 := qaS (p := numS (numS (numS p))) k4.1
 have n2 := qaS n3.1
 have n1 := qaS n2.1
 have n0 := qaS n1.1
 refine ⟨n0.1, hk, ?_⟩
 have f0 : v = numV p := by rw [ev]; exact qbw (by rw [<- ev]; exact Int.le_trans (by decide) F1.1.1)
 have f1 := qbw (n := numV (numS p)) (Int.le_trans (by decide) F2.2.2.2.1)
 have f2 := qbw (n := numV (numS (numS p))) F1.2.2.1.1
 have f3 := qbw (n := numV (numS (numS (numS p)))) F1.2.1.1
 have b8 : s3.1 = ((listG takeT m s3).map bytesT).flatten ++ (itG takeT m s3).1 := k8.2
 have b7 : s2.1 = encN m ++ s3.1 := by rw [em, k7.2.1, es3, k7.2.2.1]; exact n7.2.1
 have b6 : s.1 = ((listG (oneT v) n s).map tmB).flatten ++ s2.1 := by rw [es2]; exact k6.2
 have b5 : q.1 = encN n ++ s.1 := by rw [en, k5.2.1, es, k5.2.2.1]; exact n5.2.1
 have b4 : (rS p).1 = bytesV c ++ q.1 := by have := k4.2.2; rw [ec] at this; exact this
 have b3 : (numS (numS (numS p))).1 = encN (numV (numS (numS (numS p)))).toNat ++ (rS p).1 := n3.2.1
 unfold bytesB listB
 dsimp only
 rw [f0, f1, f2, f3]
 rw [f0] at lL b6
 have e0 : encs [numV p, numV (numS p), numV (numS (numS p)), numV (numS (numS (numS p)))] = encN (numV p).toNat ++ (encN (numV (numS p)).toNat ++ (encN (numV (numS (numS p))).toNat ++ encN (numV (numS (numS (numS p)))).toNat)) := by simp [L3.encs]
 rw [e0, lL, lT]
 simp only [List.append_assoc]
 rw [<- b8, <- b7, <- b6, <- b5, <- b4, <- b3, <- n2.2.1, <- n1.2.1]
 exact n0.2.1
theorem qkh {q : List UInt8 × Int} (h : doneV q = 0) : q.2 = 0 /\ q.1 = [] := by
 unfold L3.doneV at h
 by_cases h0 : q.2 ≠ 0
 ·rw [if_pos h0] at h; exact absurd h h0
 ·rw [if_neg h0] at h
  by_cases h1 : 0 < q.1.length
  ·rw [if_pos h1] at h; cases h
  ·exact ⟨by omega, List.eq_nil_of_length_eq_zero (by omega)⟩
theorem qkw (b : Blo) (h : checkV b = 0) : parseB (bytesB b) = (b, 0) := by
 have := qkL b [] h
 rw [List.append_nil] at this
 unfold parseB
 rw [this]
 unfold endP
 have : doneV (([] : List UInt8), (0 : Int)) = 0 := rfl
 dsimp only
 rw [this, if_neg (fun h => h rfl)]
theorem qkj {s : List UInt8} {z : Blo × (List UInt8 × Int)} (hz : z.2.2 = 0 -> checkV z.1 = 0 /\ s = bytesB z.1 ++ z.2.1) (h : (endP z).2 = 0) : checkV (endP z).1 = 0 /\ bytesB (endP z).1 = s := by
 obtain ⟨h1, h2⟩ := qly h
 obtain ⟨d1, d2⟩ := qkh h1
 obtain ⟨c2, c3⟩ := hz d1
 rw [d2, List.append_nil] at c3
 rw [h2]
 exact ⟨c2, c3.symm⟩
theorem qi2 {s : List UInt8} (h : (parseB s).2 = 0) : checkV (parseB s).1 = 0 /\ bytesB (parseB s).1 = s :=
 qkj (z := takeB (s, 0)) (fun hz => (qiK (p := (s, 0)) hz).2) h
end Go.Proofs.YtomaaidhmccngaaGreatDoor
namespace Go.Proofs.YtomaaidhmccngaaGreatDoor
open Go.RowKit Go.Maps Go.Lib
open L3 (Blk Reads)
open L11 (Crt zeroC crtL crtC mayV bytesV Stm stmC)
def tmL (t : Tmo) : List Value := [.int .i64 t.signer, .int .i64 t.view, .int .i64 t.high.kind, .int .i64 t.high.block, .int .i64 t.high.view, .int .i64 t.high.round, .int .i64 t.high.height, .int .i64 t.high.author, .int .u32 t.high.sg, .int .u32 t.high.co]
def tmC (t : Tmo) : Array Value := #[.int .i64 t.signer, .int .i64 t.view, .int .i64 t.high.kind, .int .i64 t.high.block, .int .i64 t.high.view, .int .i64 t.high.round, .int .i64 t.high.height, .int .i64 t.high.author, .int .u32 t.high.sg, .int .u32 t.high.co]
theorem tmC_eq (t : Tmo) : (tmC t).toList = tmL t := rfl
theorem qbX (t : Tmo) : (tmC t).all (·.oneCell') = true := by kernel_rfl
def bloC (b : Blo) (P T : Value) : Array Value := #[.int .i64 b.view, .int .i64 b.round, .int .i64 b.height, .int .i64 b.author, .int .i64 b.par.kind, .int .i64 b.par.block, .int .i64 b.par.view, .int .i64 b.par.round, .int .i64 b.par.height, .int .i64 b.par.author, .int .u32 b.par.sg, .int .u32 b.par.co, P, T]
theorem qaR (b : Blo) (A : Option Addr) (n c : Nat) (B : Option Addr) (m d : Nat) : (bloC b (.slice A n c) (.slice B m d)).all (·.oneCell') = true := by kernel_rfl
theorem tmInfo : (Tryz.prog.info? 31).map (·.size) = some 10 := by kernel_rfl
theorem bloInfo : (Tryz.prog.info? 57).map (·.size) = some 14 := by kernel_rfl
def Tmo.wf (t : Tmo) : Prop := inI t.signer /\ inI t.view /\ t.high.wf
theorem zeroT_wf : zeroT.wf := ⟨by unfold inI zeroT; simp, by unfold inI zeroT; simp, L11.qcN⟩
theorem tmC_inj {x y : Tmo} (h : tmC x = tmC y) : x = y := by
 obtain ⟨a0, a1, ⟨b0, b1, b2, b3, b4, b5, b6, b7⟩⟩ := x
 obtain ⟨c0, c1, ⟨d0, d1, d2, d3, d4, d5, d6, d7⟩⟩ := y
 simp only [tmC, Array.mk.injEq, List.cons.injEq, Value.int.injEq, true_and, and_true] at h
 obtain ⟨rfl, rfl, rfl, rfl, rfl, rfl, rfl, rfl, h6, h7⟩ := h
 obtain rfl : b6 = d6 := by omega
 obtain rfl : b7 = d7 := by omega
 rfl
theorem kdT : Keyed Tryz.prog 31 := Keyed.of_law (deep_law_laid laidOut (m := 4) (by omega) (of_decide_eq_true (by kernel_rfl)) (by kernel_rfl) (by kernel_rfl))
theorem cT : Tryz.prog.cellsOf 31 = 10 := by kernel_rfl
theorem kl_tmo (d : Nat) (t : Tmo) (h : t.wf) : ∃ l, Tryz.prog.keyLits (d + 3) 31 (tmL t) = some l := by
 obtain ⟨h0, h1, h2⟩ := h
 obtain ⟨lc, hc⟩ := L11.kl_crt d t.high h2
 have e0 := qaM (d + 1) h0
 have e1 := qaM (d + 1) h1
 unfold Program.keyLits
 simp only [Tryz.underlying31]
 rw [if_pos ⟨cT.symm ▸ rfl, by kernel_rfl⟩]
 have hcx : Tryz.prog.keyLits (d + 2) 29 [.int .i64 t.high.kind, .int .i64 t.high.block, .int .i64 t.high.view, .int .i64 t.high.round, .int .i64 t.high.height, .int .i64 t.high.author, .int .u32 t.high.sg, .int .u32 t.high.co] = some lc := hc
 simp only [cI, L11.cC, tmL, List.mapM_cons, List.mapM_nil, List.drop_zero, List.drop_succ_cons, List.take_succ_cons, List.take_zero, e0, e1, hcx]
 exact ⟨_, rfl⟩
theorem qlN (x : Tmo) (h : x.wf) : ∃ l, keyOf Tryz.prog 31 (.agg (tmC x)) = some l := by
 have hkt : Tryz.prog.keyType 31 = true := by kernel_rfl
 have hf : (Value.agg (tmC x)).formed Tryz.prog 31 = true := by kernel_rfl
 have hsz : 2 <= Tryz.prog.types.size := of_decide_eq_true (by kernel_rfl)
 obtain ⟨l, hl⟩ := kl_tmo (Tryz.prog.types.size - 2) x h
 rw [show Tryz.prog.types.size - 2 + 3 = Tryz.prog.types.size + 1 by omega] at hl
 unfold keyOf
 simp only [Tryz.underlying31, hkt, hf, Bool.and_self, if_true, Value.cells, tmC_eq, hl, Option.map_some]
 exact ⟨_, rfl⟩
theorem equalT {x y : Tmo} (hx : x.wf) (hy : y.wf) (w : World) : (Op.equal 31 (.agg (tmC x)) (.agg (tmC y))).run Tryz.prog w = .ok (decide (x = y)) w := by
 obtain ⟨lx, h1⟩ := qlN x hx
 obtain ⟨ly, h2⟩ := qlN y hy
 obtain ⟨r, hr, hi⟩ := run_equal_deep (P := Tryz.prog) w (m := 4) (by omega) (by kernel_rfl) (by kernel_rfl) h1 h2
 have : r = decide (x = y) := by
  rw [Bool.eq_iff_iff, hi, decide_eq_true_eq]
  constructor
  ·intro h
   rw [h] at h1
   exact tmC_inj (Value.agg.inj (kdT.inj h1 h2))
  ·intro h; subst h; rw [h1] at h2; injection h2
 rw [hr, this]
theorem neqT {x y : Tmo} (hx : x.wf) (hy : y.wf) (w : World) : (binOp .neq 31 (.agg (tmC x)) (.agg (tmC y))).run Tryz.prog w = .ok (.bool (!decide (x = y))) w := by
 simp only [binOp, Sem.run_bind, equalT hx hy, Result.andThen_ok, Sem.run_pure]
theorem neqX {n : Nat} {x y : Txx} (hx : x.wf n) (hy : y.wf n) (hn : n <= maxLen) (w : World) : (binOp .neq 133 (.agg (txC x)) (.agg (txC y))).run Tryz.prog w = .ok (.bool (!decide (x = y))) w := by
 simp only [binOp, Sem.run_bind, equalX hx hy hn, Result.andThen_ok, Sem.run_pure]
structure Blo.wf (b : Blo) : Prop where
 view : inI b.view
 round : inI b.round
 height : inI b.height
 author : inI b.author
 par : b.par.wf
 proof : ∀ t ∈ b.proof, t.wf
 txs : ∀ t ∈ b.txs, t.wf 1000000
 np : b.proof.length <= 1000
 nt : b.txs.length <= 1000
theorem qjF : zeroB.wf := by
 refine ⟨?_, ?_, ?_, ?_, L11.qcN, ?_, ?_, ?_, ?_⟩ <;> simp [inI, zeroB]
def Lies (w : World) (b : Blo) (P T : Value) : Prop :=
 ∃ A c B d, P = .slice A b.proof.length c /\ T = .slice B b.txs.length d /\ Rd tmL 10 w A b.proof /\ Rd txL 7 w B b.txs
theorem Lies.below {w w' : World} {b : Blo} {P T : Value} (h : Lies w b P T) (hb : Below w.heap.size w w') : Lies w' b P T := by
 obtain ⟨A, c, B, d, h1, h2, h3, h4⟩ := h
 exact ⟨A, c, B, d, h1, h2, h3.below hb, h4.below hb⟩
theorem qch (w : World) : (Instr.build 57 #[]).run Tryz.prog w = .ok (.agg (bloC zeroB (.slice none 0 0) (.slice none 0 0))) w := run_build w _ _ _ (by kernel_rfl)
theorem qby (w : World) (ty : TypeId) (b : Blo) (P T : Value) : Blk (w.alloc (.cells (bloC b P T) ty)) w.heap.size ty (bloC b P T) := Blk.new _ _ _
theorem qc0 (w : World) (ty : TypeId) (t : Tmo) : Blk (w.alloc (.cells (tmC t) ty)) w.heap.size ty (tmC t) := Blk.new _ _ _
theorem qae (w : World) (o : Obj) : Below w.heap.size w (w.alloc o) := (Below.refl _ _).alloc (Nat.le_refl _) o
theorem qbj {w : World} {g : Nat} {ty : TypeId} {cs : Array Value} {c : Crt} {k : Nat} (h : Blk w g ty cs) (hk : ∀ j u, (crtL c)[j]? = some u -> cs[k + j]? = some u) : ∀ j u, (crtL c)[j]? = some u -> w.cell? ((⟨g, k, none⟩ : Addr).add j) = some u := by
 intro j u hj
 have h1 := hk j u hj
 have h2 := h.cell (k + j)
 have e : (⟨g, k, none⟩ : Addr).add j = ⟨g, k + j, none⟩ := by unfold Addr.add; split <;> simp_all
 rw [e, h2]
 exact h1
theorem qeB (b : Blo) (P T : Value) : ∀ j u, (crtL b.par)[j]? = some u -> (bloC b P T)[4 + j]? = some u := by
 intro j u hj
 have hl : j < 8 := by
  rcases Nat.lt_or_ge j 8 with h | h
  ·exact h
  ·rw [List.getElem?_eq_none (by exact h)] at hj; cases hj
 obtain rfl | rfl | rfl | rfl | rfl | rfl | rfl | rfl : j = 0 ∨ j = 1 ∨ j = 2 ∨ j = 3 ∨ j = 4 ∨ j = 5 ∨ j = 6 ∨ j = 7 := by omega
 all_goals exact hj
theorem qfc (t : Tmo) : ∀ j u, (crtL t.high)[j]? = some u -> (tmC t)[2 + j]? = some u := by
 intro j u hj
 have hl : j < 8 := by
  rcases Nat.lt_or_ge j 8 with h | h
  ·exact h
  ·rw [List.getElem?_eq_none (by exact h)] at hj; cases hj
 obtain rfl | rfl | rfl | rfl | rfl | rfl | rfl | rfl : j = 0 ∨ j = 1 ∨ j = 2 ∨ j = 3 ∨ j = 4 ∨ j = 5 ∨ j = 6 ∨ j = 7 := by omega
 all_goals exact hj
end Go.Proofs.YtomaaidhmccngaaGreatDoor
namespace Go.Proofs.YtomaaidhmccngaaGreatDoor
open Go.RowKit Go.Maps Go.Lib
open L3 (Blk Reads)
open L11 (Crt zeroC crtL crtC mayV bytesV Stm stmC okW qh1 qcW crtInfo qal endV)
theorem qfE (c : Crt) (w : World) (h : c.wf) (hm : mayV c = true) : Calls Tryz.prog 37 #[.agg (crtC c)] w (gives (.int .i64 0) w) := by
 have := L11.qaD c w h; rw [hm] at this; exact this
theorem qfD (c : Crt) (w : World) (h : c.wf) (hm : mayV c = false) : Calls Tryz.prog 37 #[.agg (crtC c)] w (gives (.int .i64 110) w) := by
 have := L11.qaD c w h; rw [hm] at this; exact this
theorem c_end (c : Crt) (b : Bool) (w : World) (hb : endV c = b) : Calls Tryz.prog 122 #[.agg (crtC c)] w (gives (.bool b) w) := by
 have := L11.qhm c w; rw [hb] at this; exact this
theorem qdB (c : Crt) (b : Bool) (w : World) (h : c.wf) (hb : mayV c = b) : Calls Tryz.prog 59 #[.agg (crtC c)] w (gives (.bool b) w) := by
 have := L11.qa2 c w h; rw [hb] at this; exact this
theorem qcg (n lo hi : Int) (w : World) : Calls Tryz.prog 157 #[.int .i64 n, .int .i64 lo, .int .i64 hi] w fun e w' => e = .returned (.bool (okW n lo hi)) /\ w = w' := by
 by_cases h0 : lo <= n
 ·by_cases h1 : n <= hi
  ·have hk := qh1 h0 h1
   go_enter Tryz.func157, Tryz.ntmps157
   go_wp2
   go_ret
   exact ⟨congrArg (fun b => Ending.returned (.bool b)) hk.symm, rfl⟩
  ·have hk := qcW (n := n) (lo := lo) (hi := hi) (by omega)
   go_enter Tryz.func157, Tryz.ntmps157
   go_wp2
   go_ret
   exact ⟨rfl, rfl⟩
 ·have hk := qcW (n := n) (lo := lo) (hi := hi) (by omega)
  go_enter Tryz.func157, Tryz.ntmps157
  go_wp2
  go_ret
  exact ⟨rfl, rfl⟩
theorem qaV (n lo hi : Int) (b : Bool) (w : World) (h : okW n lo hi = b) : Calls Tryz.prog 157 #[.int .i64 n, .int .i64 lo, .int .i64 hi] w fun e w' => e = .returned (.bool b) /\ w = w' := by
 have := qcg n lo hi w; rw [h] at this; exact this
theorem qcC (n : Int) (b : Bool) (w : World) (h : okW n 1 1048576 = b) : Calls Tryz.prog 127 #[.int .i64 n] w fun e w' => e = .returned (.bool b) /\ w = w' := by
 go_enter Tryz.func127, Tryz.ntmps127
 go_wp2_with (go_at_call 157; refine (qaV _ _ _ _ _ h).mono ?_; rintro e w1 ⟨rfl, rfl⟩)
 go_ret
 exact ⟨rfl, rfl⟩
theorem qdy (n : Int) (b : Bool) (w : World) (h : okW n 0 9 = b) : Calls Tryz.prog 126 #[.int .i64 n] w fun e w' => e = .returned (.bool b) /\ w = w' := by
 go_enter Tryz.func126, Tryz.ntmps126
 go_wp2_with (go_at_call 157; refine (qaV _ _ _ _ _ h).mono ?_; rintro e w1 ⟨rfl, rfl⟩)
 go_ret
 exact ⟨rfl, rfl⟩
theorem ql0 {c : Crt} (hk : c.kind = 2) : endV c = !decide (c.co = 0) := by unfold L11.endV; rw [decide_eq_true hk]; rfl
theorem qhw (c : Crt) (v : Int) (w : World) (h : c.wf) : Calls Tryz.prog 128 #[.agg (crtC c), .int .i64 v] w (gives (.bool (openV c v)) w) := by
 have hb0 : Below w.heap.size w (w.alloc (.cells (crtC c) 29)) := L11.qa9 _ c
 have k0 := L11.qa6 w 29 c
 have B0 := hid (fun w1 => @L11.qdA w w1 29 c)
 rcases (Bool.eq_false_or_eq_true (mayV c)).symm with a | a
 ·have hm := fun W => qfD c W h a
  have e : openV c v = false := by unfold openV; rw [a]; rfl
  rw [e]
  clear e a h
  go_enter Tryz.func128, Tryz.ntmps128
  go_wp2_with (first
   | (refine qaa rfl _ _ rfl w.heap.size rfl _ _ _ _ k0 Tryz.underlying29 rfl crtInfo ?_)
   | (go_at_call 37; refine (hm _).mono ?_; unfold gives; rintro e w1 ⟨rfl, hb1⟩))
  go_ret
  exact ⟨rfl, nxt hb0 hb1⟩
 have hm := fun W => qfE c W h a
 have K0 := hid (fun w1 (hb : Below (w.alloc (.cells (crtC c) 29)).heap.size (w.alloc (.cells (crtC c) 29)) w1) => k0.below hb (by simp))
 by_cases hk : c.kind = 2
 ·have hk' : (c.kind == 2) = true := by simpa using hk
  have he := fun W => c_end c _ W (ql0 hk)
  have e : openV c v = (!decide (c.co = 0) && decide (c.view < v)) := by unfold openV; rw [a, if_pos hk]; rfl
  rw [e]
  clear e a h hk
  obtain ⟨co, hco⟩ := nm (!decide (c.co = 0))
  rw [<- hco] at he ⊢
  have HE := hid he
  clear he hco
  by_cases hv : c.view < v
  all_goals
   cases co
   all_goals
    go_enter Tryz.func128, Tryz.ntmps128
    go_upto_region 3 with (first
     | (refine qaa rfl _ _ rfl w.heap.size rfl _ _ _ _ k0 Tryz.underlying29 rfl crtInfo ?_)
     | (go_at_call 37; refine (hm _).mono ?_; unfold gives; rintro e w1 ⟨rfl, hb1⟩; obtain ⟨d0, d1, d2, d3, d4, d5, d6, d7⟩ := B0.out _ hb1; have k1 := K0.out _ hb1))
    go_wp2_with (first
     | (refine qaa rfl _ _ rfl w.heap.size rfl _ _ _ _ k1 Tryz.underlying29 rfl crtInfo ?_)
     | (go_at_call 122; refine (HE.out _).mono ?_; unfold gives; rintro e w2 ⟨rfl, hb2⟩; obtain ⟨f0, f1, f2, f3, f4, f5, f6, f7⟩ := B0.out _ (nxt hb1 hb2)))
    go_ret
    refine ⟨?_, nxt hb0 (nxt hb1 hb2)⟩
    first | rfl | simp [hv]
 ·have hk' : (c.kind == 2) = false := by simpa using hk
  have e : openV c v = decide (c.view <= v) := by unfold openV; rw [a, if_neg hk]; rfl
  rw [e]
  clear e a h hk
  by_cases hv : c.view <= v
  all_goals
   go_enter Tryz.func128, Tryz.ntmps128
   go_wp2_with (first
    | (refine qaa rfl _ _ rfl w.heap.size rfl _ _ _ _ k0 Tryz.underlying29 rfl crtInfo ?_)
    | (go_at_call 37; refine (hm _).mono ?_; unfold gives; rintro e w1 ⟨rfl, hb1⟩; obtain ⟨d0, d1, d2, d3, d4, d5, d6, d7⟩ := B0.out _ hb1))
   go_ret
   refine ⟨?_, nxt hb0 hb1⟩
   first | rfl | simp [hv]
theorem known_is (c : Crt) (v : Int) (b : Bool) (w : World) (h : c.wf) (hb : openV c v = b) : Calls Tryz.prog 128 #[.agg (crtC c), .int .i64 v] w (gives (.bool b) w) := by
 have := qhw c v w h; rw [hb] at this; exact this
theorem qi9 (c : Crt) (v : Int) (w : World) (h : c.wf) : Calls Tryz.prog 106 #[.agg (crtC c), .int .i64 v] w (gives (.bool (openV c v)) w) := by
 have hb0 : Below w.heap.size w (w.alloc (.cells (crtC c) 29)) := L11.qa9 _ c
 have k0 := L11.qa6 w 29 c
 have B0 := hid (fun w1 => @L11.qdA w w1 29 c)
 rcases (Bool.eq_false_or_eq_true (mayV c)).symm with a | a
 ·have hm := fun W => qdB c _ W h a
  have e : openV c v = false := by unfold openV; rw [a]; rfl
  rw [e]
  clear e a h
  go_enter Tryz.func106, Tryz.ntmps106
  go_wp2_with (first
   | (refine qaa rfl _ _ rfl w.heap.size rfl _ _ _ _ k0 Tryz.underlying29 rfl crtInfo ?_)
   | (go_at_call 59; refine (hm _).mono ?_; unfold gives; rintro e w1 ⟨rfl, hb1⟩))
  go_ret
  exact ⟨rfl, nxt hb0 hb1⟩
 have hm := fun W => qdB c _ W h a
 by_cases hk : c.kind = 2
 ·have hk' : (c.kind == 2) = true := by simpa using hk
  have e : openV c v = (!decide (c.co = 0) && decide (c.view < v)) := by unfold openV; rw [a, if_pos hk]; rfl
  rw [e]
  clear e a h hk
  rcases Bool.eq_false_or_eq_true (!decide (c.co = 0)) with b | b
  case' inl => obtain ⟨f1, f2⟩ := L11.qfj b
  case' inr => obtain ⟨f1, f2⟩ := L11.qg1 b
  all_goals
   rw [b]
   clear b
   by_cases hv : c.view < v
   all_goals
    go_enter Tryz.func106, Tryz.ntmps106
    go_wp2_with (first
     | (refine qaa rfl _ _ rfl w.heap.size rfl _ _ _ _ k0 Tryz.underlying29 rfl crtInfo ?_)
     | (go_at_call 59; refine (hm _).mono ?_; unfold gives; rintro e w1 ⟨rfl, hb1⟩; obtain ⟨d0, d1, d2, d3, d4, d5, d6, d7⟩ := B0.out _ hb1))
    go_ret
    refine ⟨?_, nxt hb0 hb1⟩
    first | rfl | simp [hv]
 ·have hk' : (c.kind == 2) = false := by simpa using hk
  have e : openV c v = decide (c.view <= v) := by unfold openV; rw [a, if_neg hk]; rfl
  rw [e]
  clear e a h hk
  by_cases hv : c.view <= v
  all_goals
   go_enter Tryz.func106, Tryz.ntmps106
   go_wp2_with (first
    | (refine qaa rfl _ _ rfl w.heap.size rfl _ _ _ _ k0 Tryz.underlying29 rfl crtInfo ?_)
    | (go_at_call 59; refine (hm _).mono ?_; unfold gives; rintro e w1 ⟨rfl, hb1⟩; obtain ⟨d0, d1, d2, d3, d4, d5, d6, d7⟩ := B0.out _ hb1))
   go_ret
   refine ⟨?_, nxt hb0 hb1⟩
   first | rfl | simp [hv]
theorem qez (c : Crt) (v : Int) (b : Bool) (w : World) (h : c.wf) (hb : openV c v = b) : Calls Tryz.prog 106 #[.agg (crtC c), .int .i64 v] w (gives (.bool b) w) := by
 have := qi9 c v w h; rw [hb] at this; exact this
theorem three (a b c : Bool) : a = false ∨ (a = true /\ b = false) ∨ (a = true /\ b = true /\ c = false) ∨ (a = true /\ b = true /\ c = true) := by
 cases a <;> cases b <;> cases c <;> simp
theorem qiM {w : World} {ty : TypeId} {t : Tmo} : (w.alloc (.cells (tmC t) ty)).cell? ⟨w.heap.size, 0, none⟩ = some (.int .i64 t.signer) /\ (w.alloc (.cells (tmC t) ty)).cell? ⟨w.heap.size, 1, none⟩ = some (.int .i64 t.view) /\ (∀ j u, (crtL t.high)[j]? = some u -> (w.alloc (.cells (tmC t) ty)).cell? ((⟨w.heap.size, 2, none⟩ : Addr).add j) = some u) :=
 ⟨(qc0 w ty t).cell 0, (qc0 w ty t).cell 1, qbj (qc0 w ty t) (qfc t)⟩
theorem qf0 (t : Tmo) (w : World) (h : t.wf) : Calls Tryz.prog 65 #[.agg (tmC t)] w (gives (.int .i64 (errI (tmoV t) 121)) w) := by
 have hb0 : Below w.heap.size w (w.alloc (.cells (tmC t) 31)) := qae _ _
 obtain ⟨c0, c1, c2⟩ := qiM (w := w) (ty := 31) (t := t)
 have e : tmoV t = (okW t.signer 0 9 && okW t.view 1 1048576 && openV t.high t.view) := rfl
 rcases three (okW t.signer 0 9) (okW t.view 1 1048576) (openV t.high t.view) with a | ⟨a, b⟩ | ⟨a, b, d⟩ | ⟨a, b, d⟩
 ·have E : Hid (tmoV t = false) := hid (by rw [e, a]; rfl)
  clear e h
  go_enter Tryz.func65, Tryz.ntmps65
  go_wp2_with (go_at_call 126; refine (qdy _ _ _ a).mono ?_; rintro e w1 ⟨rfl, rfl⟩)
  go_ret
  exact ⟨by rw [E.out]; rfl, hb0⟩
 ·have E : Hid (tmoV t = false) := hid (by rw [e, a, b]; rfl)
  clear e h
  go_enter Tryz.func65, Tryz.ntmps65
  go_wp2_with (first
   | (go_at_call 126; refine (qdy _ _ _ a).mono ?_; rintro e w1 ⟨rfl, rfl⟩)
   | (go_at_call 127; refine (qcC _ _ _ b).mono ?_; rintro e w1 ⟨rfl, rfl⟩))
  go_ret
  exact ⟨by rw [E.out]; rfl, hb0⟩
 all_goals
  have e2 : tmoV t = openV t.high t.view := by rw [e, a, b]; rfl
  have E := hid (e2.trans d)
  clear e2
  have hk := fun W => known_is t.high t.view _ W h.2.2 d
  clear e h
  go_enter Tryz.func65, Tryz.ntmps65
  go_wp2_with (first
   | (go_at_call 126; refine (qdy _ _ _ a).mono ?_; rintro e w1 ⟨rfl, rfl⟩)
   | (go_at_call 127; refine (qcC _ _ _ b).mono ?_; rintro e w1 ⟨rfl, rfl⟩)
   | (refine qai rfl _ _ rfl ⟨w.heap.size, 2, none⟩ rfl (crtL t.high) _ c2 Tryz.underlying29 rfl crtInfo ?_)
   | (go_at_call 128; refine (hk _).mono ?_; unfold gives; rintro e w2 ⟨rfl, hb2⟩))
  go_ret
  exact ⟨by rw [E.out]; rfl, nxt hb0 hb2⟩
theorem qkN (t : Tmo) (b : Bool) (w : World) (h : t.wf) (hb : tmoV t = b) : Calls Tryz.prog 65 #[.agg (tmC t)] w (gives (.int .i64 (errI b 121)) w) := by
 have := qf0 t w h; rw [hb] at this; exact this
