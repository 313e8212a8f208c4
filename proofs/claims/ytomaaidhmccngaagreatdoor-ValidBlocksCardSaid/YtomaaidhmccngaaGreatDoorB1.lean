import Derived.Test.YtomaaidhmccngaaGreatDoorL11
import Derived.Test.YtomaaidhmccngaaGreatDoorRd
set_option linter.unusedSimpArgs false
set_option linter.unusedVariables false
set_option maxRecDepth 100000
set_option maxHeartbeats 16000000
namespace Go.Proofs.YtomaaidhmccngaaGreatDoor
open Go.RowKit Go.Lib
open L2 (chk vlu)
open L3 (encN encs rdN numS textS textV mostV mostS failS)
open L11 (Crt readC takeC fitV fitU nS mayV bytesV numsV sgV)
theorem fit_back {n : Int} (h0 : 0 <= n) (h : 0 <= fitV n) : fitV n = n := by unfold L11.fitV at h ⊢; split at h <;> (first | omega | rfl)
end Go.Proofs.YtomaaidhmccngaaGreatDoor
namespace Go.Proofs.YtomaaidhmccngaaGreatDoor
open Go.RowKit Go.Lib
open L3 (encN encs rdN numS textS textV mostV mostS failS doneV)
open L11 (Crt zeroC takeC mayV bytesV okW)
structure Tmo where
 signer : Int
 view : Int
 high : Crt
deriving DecidableEq, Inhabited
structure Blo where
 view : Int
 round : Int
 height : Int
 author : Int
 par : Crt
 proof : List Tmo
 txs : List Txx
deriving DecidableEq, Inhabited
def zeroT : Tmo := ⟨0, 0, zeroC⟩
def zeroB : Blo := ⟨0, 0, 0, 0, zeroC, [], []⟩
def openV (c : Crt) (v : Int) : Bool := mayV c && (if c.kind = 2 then !decide (c.co = 0) && decide (c.view < v) else decide (c.view <= v))
def tmoV (t : Tmo) : Bool := okW t.signer 0 9 && okW t.view 1 1048576 && openV t.high t.view
def rightL (l : List Txx) : Bool := decide (l.length <= 8) && l.all right
def headV (b : Blo) : Bool := okW b.view 1 1048576 && okW b.author 0 9 && okW b.height 0 3 && rightL b.txs
def followsV (b : Blo) : Bool :=
 if b.height <= 1 then openV b.par b.view
 else mayV b.par && decide (b.par.kind = 2) && decide (b.par.co = 0) && decide (b.par.view = b.view) && decide (b.par.author = b.author) && decide (b.par.height = b.height - 1)
def parentV (b : Blo) : Bool := followsV b && decide (b.round = b.par.round + 1) && decide (b.round <= 1073741824)
def prevS (l : List Tmo) : Nat -> Int
 | 0 => -1
 | k + 1 => (l[k]!).signer
def riseAt (v : Int) (l : List Tmo) (k : Nat) : Bool := tmoV (l[k]!) && decide ((l[k]!).view = v) && decide (prevS l k < (l[k]!).signer)
def risesV (v : Int) (l : List Tmo) : Bool := (List.range l.length).all (riseAt v l)
def provenV (b : Blo) : Bool := if b.height = 1 then decide (1 <= b.proof.length /\ b.proof.length <= 10) && risesV b.view b.proof else b.proof.isEmpty
def checkV (b : Blo) : Int := if headV b = false then 120 else if parentV b = false then 122 else if provenV b = false then 121 else 0
theorem qbx {b : Blo} (h : checkV b = 0) : headV b = true /\ parentV b = true /\ provenV b = true := by
 unfold checkV at h
 cases h1 : headV b <;> cases h2 : parentV b <;> cases h3 : provenV b <;> simp [h1, h2, h3] at h ⊢
theorem qiM {v : Int} {l : List Tmo} (h : risesV v l = true) {k : Nat} (hk : k < l.length) : riseAt v l k = true := by
 unfold risesV at h
 rw [List.all_eq_true] at h
 exact h k (List.mem_range.2 hk)
theorem qda {v : Int} {l : List Tmo} {k : Nat} (hk : k < l.length) (h : riseAt v l k = false) : risesV v l = false := by
 unfold risesV
 rw [List.all_eq_false]
 exact ⟨k, List.mem_range.2 hk, by rw [h]; simp⟩
theorem qgP {v : Int} {l : List Tmo} (h : ∀ k, k < l.length -> riseAt v l k = true) : risesV v l = true := by
 unfold risesV
 rw [List.all_eq_true]
 exact fun k hk => h k (List.mem_range.1 hk)
theorem qen {l : List Tmo} {k : Nat} (hk : k < l.length) : l[k]! = l[k] := getElem!_pos l k hk
theorem qcI {b : Blo} (h : provenV b = true) : ∀ t ∈ b.proof, tmoV t = true /\ t.view = b.view := by
 intro t ht
 unfold provenV at h
 split at h
 ·simp only [Bool.and_eq_true] at h
  obtain ⟨k, hk, rfl⟩ := List.getElem_of_mem ht
  have := qiM h.2 hk
  unfold riseAt at this
  rw [qen hk] at this
  simp only [Bool.and_eq_true, decide_eq_true_eq] at this
  exact this.1
 ·rw [List.isEmpty_iff] at h; rw [h] at ht; cases ht
theorem qcF {b : Blo} (h : provenV b = true) : b.proof.length <= 10 := by
 unfold provenV at h
 split at h
 ·simp only [Bool.and_eq_true, decide_eq_true_eq] at h; omega
 ·rw [List.isEmpty_iff] at h; rw [h]; simp
def tmB (t : Tmo) : List UInt8 := encN t.signer.toNat ++ bytesV t.high
def listB {α : Type} (f : α -> List UInt8) (l : List α) : List UInt8 := encN l.length ++ (l.map f).flatten
def bytesB (b : Blo) : List UInt8 := encs [b.view, b.round, b.height, b.author] ++ (bytesV b.par ++ (listB tmB b.proof ++ listB bytesT b.txs))
section
variable {α : Type} (one : List UInt8 × Int -> α × (List UInt8 × Int))
def itG : Nat -> List UInt8 × Int -> List UInt8 × Int
 | 0, p => p
 | k + 1, p => (one (itG k p)).2
def listG (n : Nat) (p : List UInt8 × Int) : List α := (List.range n).map fun k => (one (itG one k p)).1
theorem qcs (n : Nat) (p : List UInt8 × Int) : listG one (n + 1) p = listG one n p ++ [(one (itG one n p)).1] := by unfold listG; rw [List.range_succ, List.map_append]; rfl
theorem qbu (n : Nat) (p : List UInt8 × Int) : (listG one n p).length = n := by unfold listG; simp
theorem qiO (f : α -> List UInt8) (L : List α) (rest : List UInt8) (hb : ∀ t ∈ L, ∀ r, one (f t ++ r, 0) = (t, (r, 0))) : ∀ n, n <= L.length -> itG one n ((L.map f).flatten ++ rest, 0) = (((L.drop n).map f).flatten ++ rest, 0) /\ listG one n ((L.map f).flatten ++ rest, 0) = L.take n
 | 0, _ => by simp [itG, listG]
 | n + 1, h => by
   obtain ⟨h1, h2⟩ := qiO f L rest hb n (by omega)
   have hd : ((L.drop n).map f).flatten ++ rest = f L[n] ++ (((L.drop (n + 1)).map f).flatten ++ rest) := by
    rw [List.drop_eq_getElem_cons (show n < L.length by omega), List.map_cons, List.flatten_cons, List.append_assoc]
   have h3 := hb L[n] (List.getElem_mem _) (((L.drop (n + 1)).map f).flatten ++ rest)
   constructor
   ·show (one (itG one n _)).2 = _
    rw [h1, hd, h3]
   ·rw [qcs, h1, h2, hd, h3, List.take_succ_eq_append_getElem (show n < L.length by omega)]
theorem qeu (f : α -> List UInt8) (L : List α) (rest : List UInt8) (hb : ∀ t ∈ L, ∀ r, one (f t ++ r, 0) = (t, (r, 0))) : itG one L.length ((L.map f).flatten ++ rest, 0) = (rest, 0) /\ listG one L.length ((L.map f).flatten ++ rest, 0) = L := by
 obtain ⟨h1, h2⟩ := qiO one f L rest hb L.length (Nat.le_refl _)
 rw [h1, h2]
 simp
end
def fitB (n : Int) : Int := if 1073741824 < n then -1 else n
theorem qeU (n : Int) (h : 0 <= n) : inI (fitB n) := by unfold fitB inI; split <;> omega
theorem qbf {n : Int} (h : n <= 1073741824) : fitB n = n := by unfold fitB; rw [if_neg (by omega)]
theorem qcN {n : Int} (h : 0 <= fitB n) : fitB n = n := by unfold fitB at h ⊢; split at h <;> (first | omega | rfl)
def oneT (v : Int) (p : List UInt8 × Int) : Tmo × (List UInt8 × Int) := (⟨fitB (numV p), v, (takeC (numS p)).1⟩, (takeC (numS p)).2)
def rS (p : List UInt8 × Int) : List UInt8 × Int := numS (numS (numS (numS p)))
def readB (p : List UInt8 × Int) : Blo × (List UInt8 × Int) :=
 let v := fitB (numV p)
 let c := takeC (rS p)
 let s := mostS 10 c.2
 let n := (mostV 10 c.2).toNat
 let s2 := itG (oneT v) n s
 let m := (mostV 8 s2).toNat
 let s3 := mostS 8 s2
 (⟨v, fitB (numV (numS p)), fitB (numV (numS (numS p))), fitB (numV (numS (numS (numS p)))), c.1, listG (oneT v) n s, listG takeT m s3⟩, itG takeT m s3)
def takeB (p : List UInt8 × Int) : Blo × (List UInt8 × Int) :=
 if (failS (checkV (readB p).1) (readB p).2).2 ≠ 0 then (zeroB, failS (checkV (readB p).1) (readB p).2) else ((readB p).1, failS (checkV (readB p).1) (readB p).2)
def endP (z : Blo × (List UInt8 × Int)) : Blo × Int := if doneV z.2 ≠ 0 then (zeroB, doneV z.2) else (z.1, 0)
def parseB (s : List UInt8) : Blo × Int := endP (takeB (s, 0))
theorem qfY {n lo hi : Int} (h : okW n lo hi = true) : lo <= n /\ n <= hi := of_decide_eq_true h
theorem qbH {t : Tmo} (h : tmoV t = true) : (0 <= t.signer /\ t.signer <= 9) /\ (1 <= t.view /\ t.view <= 1048576) /\ openV t.high t.view = true /\ mayV t.high = true := by
 unfold tmoV at h
 simp only [Bool.and_eq_true] at h
 refine ⟨qfY h.1.1, qfY h.1.2, h.2, ?_⟩
 have := h.2
 unfold openV at this
 simp only [Bool.and_eq_true] at this
 exact this.1
theorem qbC {b : Blo} (h : headV b = true) : (1 <= b.view /\ b.view <= 1048576) /\ (0 <= b.author /\ b.author <= 9) /\ (0 <= b.height /\ b.height <= 3) /\ b.txs.length <= 8 /\ ∀ t ∈ b.txs, right t = true := by
 unfold headV rightL at h
 simp only [Bool.and_eq_true, decide_eq_true_eq, List.all_eq_true] at h
 exact ⟨qfY h.1.1.1, qfY h.1.1.2, qfY h.1.2, h.2.1, h.2.2⟩
theorem qdu {b : Blo} (h : followsV b = true) : mayV b.par = true := by
 unfold followsV at h
 split at h
 ·unfold openV at h; simp only [Bool.and_eq_true] at h; exact h.1
 ·simp only [Bool.and_eq_true] at h; exact h.1.1.1.1.1
theorem qeN {c : Crt} (h : mayV c = true) : 0 <= c.round /\ c.round <= 1073741824 := by
 by_cases h0 : c.kind = 0
 ·rw [L11.qdY h h0]; exact ⟨by decide, by decide⟩
 ·by_cases h1 : c.kind = 1
  ·have := (L11.qbG (L11.qeE h h1).1).2.2.1; omega
  ·have := (L11.qbG (L11.qdx h h0 h1).2.1).2.2.1; omega
theorem qbj {b : Blo} (h : parentV b = true) : mayV b.par = true /\ followsV b = true /\ b.round = b.par.round + 1 /\ 1 <= b.round /\ b.round <= 1073741824 := by
 unfold parentV at h
 simp only [Bool.and_eq_true, decide_eq_true_eq] at h
 have hm := qdu h.1.1
 have := qeN hm
 exact ⟨hm, h.1.1, h.1.2, by omega, h.2⟩
theorem qkE (v : Int) (t : Tmo) (h : tmoV t = true) (hv : t.view = v) (r : List UInt8) : oneT v (tmB t ++ r, 0) = (t, (r, 0)) := by
 obtain ⟨h1, h2, h3, h4⟩ := qbH h
 have e : tmB t ++ r = encN t.signer.toNat ++ (bytesV t.high ++ r) := by unfold tmB; rw [List.append_assoc]
 obtain ⟨n1, n2⟩ := qbp t.signer.toNat (bytesV t.high ++ r) (by omega)
 have hc := L11.qde t.high r h4
 unfold oneT
 rw [e, n1, n2, hc, Int.toNat_of_nonneg h1.1, qbf (by omega), <- hv]
theorem qca {α : Type} (f : α -> List UInt8) (n : Nat) : ∀ L : List α, (∀ t ∈ L, (f t).length <= n) -> ((L.map f).flatten).length <= L.length * n
 | [], _ => by simp
 | t :: L, h => by
   have h1 := h t (List.mem_cons_self ..)
   have h2 := qca f n L fun x hx => h x (List.mem_cons_of_mem _ hx)
   rw [List.map_cons, List.flatten_cons, List.length_append, List.length_cons, Nat.add_mul]
   omega
theorem encN9 {n : Nat} (h : n <= 4611686018427387904) : (encN n).length <= 9 := L3.qbU h
theorem qe4 {s : List UInt8} (h : s.length <= 128) : (txtB s).length <= 137 := by
 unfold txtB; rw [List.length_append]; have := encN9 (n := s.length) (by omega); omega
theorem qei {t : Txx} (h : right t = true) : (bytesT t).length <= 429 := by
 obtain ⟨_, f1, f2, f3, f4, _, _⟩ := qe9 h
 have hn : posN t.nonce = true := by
  by_cases hk : t.kind = 1
  ·exact (qbZ h hk).1
  ·exact (qcv h hk).1
 have hn := qb5 hn
 have hk : t.kind.toNat <= 2 := by
  by_cases hk : t.kind = 1
  ·rw [hk]; decide
  ·rw [(qcv h hk).2.2.2.2.2.2]; decide
 have a1 := encN9 (n := t.kind.toNat) (by omega)
 have a2 := encN9 (n := t.nonce.toNat) (by omega)
 have t1 := qe4 f1
 have t2 := qe4 f2
 have t3 := qe4 f3
 have t4 := qe4 f4
 unfold bytesT
 rw [List.length_append, List.length_append, List.length_append]
 split
 ·rename_i hk1
  have ha := qb5 (qbZ h hk1).2.2.2.1
  have a3 := encN9 (n := t.amount.toNat) (by omega)
  rw [List.length_append]; omega
 ·rw [List.length_append]; omega
theorem qib {t : Tmo} (h : tmoV t = true) : (tmB t).length <= 81 := by
 obtain ⟨h1, h2, h3, h4⟩ := qbH h
 have a1 := encN9 (n := t.signer.toNat) (by omega)
 have a2 := L11.qeL h4
 unfold tmB
 rw [List.length_append]; omega
theorem qc2 {b : Blo} (h : checkV b = 0) : (bytesB b).length <= 5000 := by
 obtain ⟨hh, hp, hr⟩ := qbx h
 obtain ⟨h1, h2, h3, h4, h5⟩ := qbC hh
 obtain ⟨p1, p2, p3, p4, p5⟩ := qbj hp
 have q1 := qcI hr
 have q2 := qcF hr
 have l1 := L11.qeL p1
 have l2 := qca tmB 81 b.proof fun t ht => qib (q1 t ht).1
 have l3 := qca bytesT 429 b.txs fun t ht => qei (h5 t ht)
 have l4 := L3.qgh [b.view, b.round, b.height, b.author] (by
  have e : ∀ n : Int, 0 <= n -> n <= 4611686018427387904 -> L3.okN n = true := fun n a b => L3.qbr a b
  simp [e b.view (by omega) (by omega), e b.round (by omega) (by omega), e b.height (by omega) (by omega), e b.author (by omega) (by omega)])
 have l5 := encN9 (n := b.proof.length) (by omega)
 have l6 := encN9 (n := b.txs.length) (by omega)
 unfold bytesB listB
 simp only [List.length_append] at *
 have e4 : [b.view, b.round, b.height, b.author].length = 4 := rfl
 rw [e4] at l4
 have : b.proof.length * 81 <= 810 := by omega
 have : b.txs.length * 429 <= 3432 := by omega
 omega
theorem qk7 (b : Blo) (rest : List UInt8) (h : checkV b = 0) : takeB (bytesB b ++ rest, 0) = (b, (rest, 0)) := by
 obtain ⟨hh, hp, hr⟩ := qbx h
 obtain ⟨h1, h2, h3, h4, h5⟩ := qbC hh
 obtain ⟨p1, p2, p3, p4, p5⟩ := qbj hp
 have q1 := qcI hr
 have q2 := qcF hr
 obtain ⟨l8, e8⟩ := nm ((b.txs.map bytesT).flatten ++ rest)
 obtain ⟨l7, e7⟩ := nm (encN b.txs.length ++ l8)
 obtain ⟨l6, e6⟩ := nm ((b.proof.map tmB).flatten ++ l7)
 obtain ⟨l5, e5⟩ := nm (encN b.proof.length ++ l6)
 obtain ⟨l4, e4⟩ := nm (bytesV b.par ++ l5)
 obtain ⟨l3, e3⟩ := nm (encN b.author.toNat ++ l4)
 obtain ⟨l2, e2⟩ := nm (encN b.height.toNat ++ l3)
 obtain ⟨l1, e1⟩ := nm (encN b.round.toNat ++ l2)
 have e : bytesB b ++ rest = encN b.view.toNat ++ l1 := by
  rw [e1, e2, e3, e4, e5, e6, e7, e8]; unfold bytesB listB; simp [L3.encs]
 obtain ⟨v0, s0⟩ := qbp b.view.toNat l1 (by omega)
 obtain ⟨v1, s1⟩ := qbp b.round.toNat l2 (by omega)
 obtain ⟨v2, s2⟩ := qbp b.height.toNat l3 (by omega)
 obtain ⟨v3, s3⟩ := qbp b.author.toNat l4 (by omega)
 obtain ⟨v5, s5⟩ := qbp b.proof.length l6 (by omega)
 obtain ⟨v7, s7⟩ := qbp b.txs.length l8 (by omega)
 have hc := L11.qde b.par l5 p1
 rw [<- e1] at v1 s1
 rw [<- e2] at v2 s2
 rw [<- e3] at v3 s3
 rw [<- e4] at hc
 rw [<- e5] at v5 s5
 rw [<- e7] at v7 s7
 rw [Int.toNat_of_nonneg (by omega)] at v0 v1 v2 v3
 have m5 : mostV 10 (l5, 0) = b.proof.length /\ mostS 10 (l5, 0) = (l6, 0) := by
  have : ((rdN 0 0 l5).1 : Int) = b.proof.length := v5
  unfold L3.mostV L3.mostS
  dsimp only
  rw [this, if_neg (by omega), if_neg (by omega)]
  exact ⟨rfl, s5⟩
 have m7 : mostV 8 (l7, 0) = b.txs.length /\ mostS 8 (l7, 0) = (l8, 0) := by
  have : ((rdN 0 0 l7).1 : Int) = b.txs.length := v7
  unfold L3.mostV L3.mostS
  dsimp only
  rw [this, if_neg (by omega), if_neg (by omega)]
  exact ⟨rfl, s7⟩
 obtain ⟨i1, i2⟩ := qeu (oneT b.view) tmB b.proof l7 (fun t ht r => qkE b.view t (q1 t ht).1 (q1 t ht).2 r)
 obtain ⟨j1, j2⟩ := qeu takeT bytesT b.txs rest (fun t ht r => qde t r (h5 t ht))
 rw [<- e6] at i1 i2
 rw [<- e8] at j1 j2
 have hR : readB (bytesB b ++ rest, 0) = (b, (rest, 0)) := by
  unfold readB rS
  rw [e]
  simp only [v0, s0, v1, s1, v2, s2, v3, s3, hc, m5, m7, Int.toNat_natCast, qbf (show b.view <= 1073741824 by omega), qbf (show b.round <= 1073741824 by omega), qbf (show b.height <= 1073741824 by omega), qbf (show b.author <= 1073741824 by omega), i1, i2, j1, j2]
 unfold takeB
 rw [hR]
 dsimp only
 rw [h]
 have : failS 0 (rest, (0 : Int)) = (rest, 0) := by unfold L3.failS; rw [if_pos (.inr rfl)]
 rw [this, if_neg (fun h => h rfl)]
theorem pair_eta {α β : Type} (x : α × β) : x = (x.1, x.2) := by cases x; rfl
theorem qeK (p : List UInt8 × Int) : ∃ v c q s n s2 m s3, v = fitB (numV p) /\ takeC (rS p) = (c, q) /\ s = mostS 10 q /\ n = (mostV 10 q).toNat /\ s2 = itG (oneT v) n s /\ m = (mostV 8 s2).toNat /\ s3 = mostS 8 s2 /\
 readB p = (⟨v, fitB (numV (numS p)), fitB (numV (numS (numS p))), fitB (numV (numS (numS (numS p)))), c, listG (oneT v) n s, listG takeT m s3⟩, itG takeT m s3) :=
 ⟨fitB (numV p), (takeC (rS p)).1, (takeC (rS p)).2, _, _, _, _, _, rfl, pair_eta _, rfl, rfl, rfl, rfl, rfl, by unfold readB; rfl⟩
theorem qkb (b : Blo) (h : checkV b = 0) : parseB (bytesB b) = (b, 0) := by
 have := qk7 b [] h
 rw [List.append_nil] at this
 unfold parseB
 rw [this]
 unfold endP
 have : doneV (([] : List UInt8), (0 : Int)) = 0 := rfl
 dsimp only
 rw [this, if_neg (fun h => h rfl)]
end Go.Proofs.YtomaaidhmccngaaGreatDoor
namespace Go.Proofs.YtomaaidhmccngaaGreatDoor
open Go.RowKit Go.Maps Go.Lib
open L3 (Blk Reads)
open L11 (Crt zeroC crtL crtC mayV bytesV Stm stmC)
def tmL (t : Tmo) : List Value := [.int .i64 t.signer, .int .i64 t.view, .int .i64 t.high.kind, .int .i64 t.high.block, .int .i64 t.high.view, .int .i64 t.high.round, .int .i64 t.high.height, .int .i64 t.high.author, .int .u32 t.high.sg, .int .u32 t.high.co]
def tmC (t : Tmo) : Array Value := #[.int .i64 t.signer, .int .i64 t.view, .int .i64 t.high.kind, .int .i64 t.high.block, .int .i64 t.high.view, .int .i64 t.high.round, .int .i64 t.high.height, .int .i64 t.high.author, .int .u32 t.high.sg, .int .u32 t.high.co]
theorem tmC_eq (t : Tmo) : (tmC t).toList = tmL t := rfl
theorem qbV (t : Tmo) : (tmC t).all (·.oneCell') = true := by kernel_rfl
def bloC (b : Blo) (P T : Value) : Array Value := #[.int .i64 b.view, .int .i64 b.round, .int .i64 b.height, .int .i64 b.author, .int .i64 b.par.kind, .int .i64 b.par.block, .int .i64 b.par.view, .int .i64 b.par.round, .int .i64 b.par.height, .int .i64 b.par.author, .int .u32 b.par.sg, .int .u32 b.par.co, P, T]
theorem qaV (b : Blo) (A : Option Addr) (n c : Nat) (B : Option Addr) (m d : Nat) : (bloC b (.slice A n c) (.slice B m d)).all (·.oneCell') = true := by kernel_rfl
theorem tmInfo : (Tryz.prog.info? 31).map (·.size) = some 10 := by kernel_rfl
theorem bloInfo : (Tryz.prog.info? 57).map (·.size) = some 14 := by kernel_rfl
def Tmo.wf (t : Tmo) : Prop := inI t.signer /\ inI t.view /\ t.high.wf
theorem zeroT_wf : zeroT.wf := ⟨by unfold inI zeroT; simp, by unfold inI zeroT; simp, L11.qdK⟩
theorem cT : Tryz.prog.cellsOf 31 = 10 := by kernel_rfl
structure Blo.wf (b : Blo) : Prop where
 view : inI b.view
 round : inI b.round
 height : inI b.height
 author : inI b.author
 par : b.par.wf
 proof : ∀ t ∈ b.proof, t.wf
 txs : ∀ t ∈ b.txs, t.wf 1000000
 np : b.proof.length <= 1000
 nt : b.txs.length <= 1000
def Lies (w : World) (b : Blo) (P T : Value) : Prop :=
 ∃ A c B d, P = .slice A b.proof.length c /\ T = .slice B b.txs.length d /\ Rd tmL 10 w A b.proof /\ Rd txL 7 w B b.txs
theorem Lies.below {w w' : World} {b : Blo} {P T : Value} (h : Lies w b P T) (hb : Below w.heap.size w w') : Lies w' b P T := by
 obtain ⟨A, c, B, d, h1, h2, h3, h4⟩ := h
 exact ⟨A, c, B, d, h1, h2, h3.below hb, h4.below hb⟩
theorem qce (w : World) : (Instr.build 57 #[]).run Tryz.prog w = .ok (.agg (bloC zeroB (.slice none 0 0) (.slice none 0 0))) w := run_build w _ _ _ (by kernel_rfl)
theorem qbB (w : World) (ty : TypeId) (b : Blo) (P T : Value) : Blk (w.alloc (.cells (bloC b P T) ty)) w.heap.size ty (bloC b P T) := Blk.new _ _ _
theorem qcp (w : World) (ty : TypeId) (t : Tmo) : Blk (w.alloc (.cells (tmC t) ty)) w.heap.size ty (tmC t) := Blk.new _ _ _
theorem qae (w : World) (o : Obj) : Below w.heap.size w (w.alloc o) := (Below.refl _ _).alloc (Nat.le_refl _) o
theorem qaS {w : World} {g : Nat} {ty : TypeId} {cs : Array Value} {c : Crt} {k : Nat} (h : Blk w g ty cs) (hk : ∀ j u, (crtL c)[j]? = some u -> cs[k + j]? = some u) : ∀ j u, (crtL c)[j]? = some u -> w.cell? ((⟨g, k, none⟩ : Addr).add j) = some u := by
 intro j u hj
 have h1 := hk j u hj
 have h2 := h.cell (k + j)
 have e : (⟨g, k, none⟩ : Addr).add j = ⟨g, k + j, none⟩ := by unfold Addr.add; split <;> simp_all
 rw [e, h2]
 exact h1
theorem qdm (b : Blo) (P T : Value) : ∀ j u, (crtL b.par)[j]? = some u -> (bloC b P T)[4 + j]? = some u := by
 intro j u hj
 have hl : j < 8 := by
  rcases Nat.lt_or_ge j 8 with h | h
  ·exact h
  ·rw [List.getElem?_eq_none (by exact h)] at hj; cases hj
 obtain rfl | rfl | rfl | rfl | rfl | rfl | rfl | rfl : j = 0 ∨ j = 1 ∨ j = 2 ∨ j = 3 ∨ j = 4 ∨ j = 5 ∨ j = 6 ∨ j = 7 := by omega
 all_goals exact hj
theorem qfu (t : Tmo) : ∀ j u, (crtL t.high)[j]? = some u -> (tmC t)[2 + j]? = some u := by
 intro j u hj
 have hl : j < 8 := by
  rcases Nat.lt_or_ge j 8 with h | h
  ·exact h
  ·rw [List.getElem?_eq_none (by exact h)] at hj; cases hj
 obtain rfl | rfl | rfl | rfl | rfl | rfl | rfl | rfl : j = 0 ∨ j = 1 ∨ j = 2 ∨ j = 3 ∨ j = 4 ∨ j = 5 ∨ j = 6 ∨ j = 7 := by omega
 all_goals exact hj
end Go.Proofs.YtomaaidhmccngaaGreatDoor
namespace Go.Proofs.YtomaaidhmccngaaGreatDoor
open Go.RowKit Go.Maps Go.Lib
open L3 (Blk Reads)
open L11 (Crt zeroC crtL crtC mayV bytesV Stm stmC okW qhu qcO crtInfo qak endV)
theorem qfB (c : Crt) (w : World) (h : c.wf) (hm : mayV c = true) : Calls Tryz.prog 37 #[.agg (crtC c)] w (gives (.int .i64 0) w) := by
 have := L11.qaD c w h; rw [hm] at this; exact this
theorem qfV (c : Crt) (w : World) (h : c.wf) (hm : mayV c = false) : Calls Tryz.prog 37 #[.agg (crtC c)] w (gives (.int .i64 110) w) := by
 have := L11.qaD c w h; rw [hm] at this; exact this
theorem c_end (c : Crt) (b : Bool) (w : World) (hb : endV c = b) : Calls Tryz.prog 122 #[.agg (crtC c)] w (gives (.bool b) w) := by
 have := L11.qhx c w; rw [hb] at this; exact this
theorem qdJ (c : Crt) (b : Bool) (w : World) (h : c.wf) (hb : mayV c = b) : Calls Tryz.prog 59 #[.agg (crtC c)] w (gives (.bool b) w) := by
 have := L11.qa2 c w h; rw [hb] at this; exact this
theorem qbX (n lo hi : Int) (w : World) : Calls Tryz.prog 157 #[.int .i64 n, .int .i64 lo, .int .i64 hi] w fun e w' => e = .returned (.bool (okW n lo hi)) /\ w = w' := by
 by_cases h0 : lo <= n
 ·by_cases h1 : n <= hi
  ·have hk := qhu h0 h1
   go_enter Tryz.func157, Tryz.ntmps157
   go_wp2
   go_ret
   exact ⟨congrArg (fun b => Ending.returned (.bool b)) hk.symm, rfl⟩
  ·have hk := qcO (n := n) (lo := lo) (hi := hi) (by omega)
   go_enter Tryz.func157, Tryz.ntmps157
   go_wp2
   go_ret
   exact ⟨rfl, rfl⟩
 ·have hk := qcO (n := n) (lo := lo) (hi := hi) (by omega)
  go_enter Tryz.func157, Tryz.ntmps157
  go_wp2
  go_ret
  exact ⟨rfl, rfl⟩
theorem qaT (n lo hi : Int) (b : Bool) (w : World) (h : okW n lo hi = b) : Calls Tryz.prog 157 #[.int .i64 n, .int .i64 lo, .int .i64 hi] w fun e w' => e = .returned (.bool b) /\ w = w' := by
 have := qbX n lo hi w; rw [h] at this; exact this
theorem qc9 (n : Int) (b : Bool) (w : World) (h : okW n 1 1048576 = b) : Calls Tryz.prog 127 #[.int .i64 n] w fun e w' => e = .returned (.bool b) /\ w = w' := by
 go_enter Tryz.func127, Tryz.ntmps127
 go_wp2_with (go_at_call 157; refine (qaT _ _ _ _ _ h).mono ?_; rintro e w1 ⟨rfl, rfl⟩)
 go_ret
 exact ⟨rfl, rfl⟩
theorem qd1 (n : Int) (b : Bool) (w : World) (h : okW n 0 9 = b) : Calls Tryz.prog 126 #[.int .i64 n] w fun e w' => e = .returned (.bool b) /\ w = w' := by
 go_enter Tryz.func126, Tryz.ntmps126
 go_wp2_with (go_at_call 157; refine (qaT _ _ _ _ _ h).mono ?_; rintro e w1 ⟨rfl, rfl⟩)
 go_ret
 exact ⟨rfl, rfl⟩
theorem qlO {c : Crt} (hk : c.kind = 2) : endV c = !decide (c.co = 0) := by unfold L11.endV; rw [decide_eq_true hk]; rfl
theorem qhN (c : Crt) (v : Int) (w : World) (h : c.wf) : Calls Tryz.prog 128 #[.agg (crtC c), .int .i64 v] w (gives (.bool (openV c v)) w) := by
 have hb0 : Below w.heap.size w (w.alloc (.cells (crtC c) 29)) := L11.qa9 _ c
 have k0 := L11.qa6 w 29 c
 have B0 := hid (fun w1 => @L11.qdN w w1 29 c)
 rcases (Bool.eq_false_or_eq_true (mayV c)).symm with a | a
 ·have hm := fun W => qfV c W h a
  have e : openV c v = false := by unfold openV; rw [a]; rfl
  rw [e]
  clear e a h
  go_enter Tryz.func128, Tryz.ntmps128
  go_wp2_with (first
   | (refine qaa rfl _ _ rfl w.heap.size rfl _ _ _ _ k0 Tryz.underlying29 rfl crtInfo ?_)
   | (go_at_call 37; refine (hm _).mono ?_; unfold gives; rintro e w1 ⟨rfl, hb1⟩))
  go_ret
  exact ⟨rfl, nxt hb0 hb1⟩
 have hm := fun W => qfB c W h a
 have K0 := hid (fun w1 (hb : Below (w.alloc (.cells (crtC c) 29)).heap.size (w.alloc (.cells (crtC c) 29)) w1) => k0.below hb (by simp))
 by_cases hk : c.kind = 2
 ·have hk' : (c.kind == 2) = true := by simpa using hk
  have he := fun W => c_end c _ W (qlO hk)
  have e : openV c v = (!decide (c.co = 0) && decide (c.view < v)) := by unfold openV; rw [a, if_pos hk]; rfl
  rw [e]
  clear e a h hk
  obtain ⟨co, hco⟩ := nm (!decide (c.co = 0))
  rw [<- hco] at he ⊢
  have HE := hid he
  clear he hco
  by_cases hv : c.view < v
  all_goals
   cases co
   all_goals
    go_enter Tryz.func128, Tryz.ntmps128
    go_upto_region 3 with (first
     | (refine qaa rfl _ _ rfl w.heap.size rfl _ _ _ _ k0 Tryz.underlying29 rfl crtInfo ?_)
     | (go_at_call 37; refine (hm _).mono ?_; unfold gives; rintro e w1 ⟨rfl, hb1⟩; obtain ⟨d0, d1, d2, d3, d4, d5, d6, d7⟩ := B0.out _ hb1; have k1 := K0.out _ hb1))
    go_wp2_with (first
     | (refine qaa rfl _ _ rfl w.heap.size rfl _ _ _ _ k1 Tryz.underlying29 rfl crtInfo ?_)
     | (go_at_call 122; refine (HE.out _).mono ?_; unfold gives; rintro e w2 ⟨rfl, hb2⟩; obtain ⟨f0, f1, f2, f3, f4, f5, f6, f7⟩ := B0.out _ (nxt hb1 hb2)))
    go_ret
    refine ⟨?_, nxt hb0 (nxt hb1 hb2)⟩
    first | rfl | simp [hv]
 ·have hk' : (c.kind == 2) = false := by simpa using hk
  have e : openV c v = decide (c.view <= v) := by unfold openV; rw [a, if_neg hk]; rfl
  rw [e]
  clear e a h hk
  by_cases hv : c.view <= v
  all_goals
   go_enter Tryz.func128, Tryz.ntmps128
   go_wp2_with (first
    | (refine qaa rfl _ _ rfl w.heap.size rfl _ _ _ _ k0 Tryz.underlying29 rfl crtInfo ?_)
    | (go_at_call 37; refine (hm _).mono ?_; unfold gives; rintro e w1 ⟨rfl, hb1⟩; obtain ⟨d0, d1, d2, d3, d4, d5, d6, d7⟩ := B0.out _ hb1))
   go_ret
   refine ⟨?_, nxt hb0 hb1⟩
   first | rfl | simp [hv]
theorem known_is (c : Crt) (v : Int) (b : Bool) (w : World) (h : c.wf) (hb : openV c v = b) : Calls Tryz.prog 128 #[.agg (crtC c), .int .i64 v] w (gives (.bool b) w) := by
 have := qhN c v w h; rw [hb] at this; exact this
theorem qie (c : Crt) (v : Int) (w : World) (h : c.wf) : Calls Tryz.prog 106 #[.agg (crtC c), .int .i64 v] w (gives (.bool (openV c v)) w) := by
 have hb0 : Below w.heap.size w (w.alloc (.cells (crtC c) 29)) := L11.qa9 _ c
 have k0 := L11.qa6 w 29 c
 have B0 := hid (fun w1 => @L11.qdN w w1 29 c)
 rcases (Bool.eq_false_or_eq_true (mayV c)).symm with a | a
 ·have hm := fun W => qdJ c _ W h a
  have e : openV c v = false := by unfold openV; rw [a]; rfl
  rw [e]
  clear e a h
  go_enter Tryz.func106, Tryz.ntmps106
  go_wp2_with (first
   | (refine qaa rfl _ _ rfl w.heap.size rfl _ _ _ _ k0 Tryz.underlying29 rfl crtInfo ?_)
   | (go_at_call 59; refine (hm _).mono ?_; unfold gives; rintro e w1 ⟨rfl, hb1⟩))
  go_ret
  exact ⟨rfl, nxt hb0 hb1⟩
 have hm := fun W => qdJ c _ W h a
 by_cases hk : c.kind = 2
 ·have hk' : (c.kind == 2) = true := by simpa using hk
  have e : openV c v = (!decide (c.co = 0) && decide (c.view < v)) := by unfold openV; rw [a, if_pos hk]; rfl
  rw [e]
  clear e a h hk
  rcases Bool.eq_false_or_eq_true (!decide (c.co = 0)) with b | b
  case' inl => obtain ⟨f1, f2⟩ := L11.qeO b
  case' inr => obtain ⟨f1, f2⟩ := L11.qgJ b
  all_goals
   rw [b]
   clear b
   by_cases hv : c.view < v
   all_goals
    go_enter Tryz.func106, Tryz.ntmps106
    go_wp2_with (first
     | (refine qaa rfl _ _ rfl w.heap.size rfl _ _ _ _ k0 Tryz.underlying29 rfl crtInfo ?_)
     | (go_at_call 59; refine (hm _).mono ?_; unfold gives; rintro e w1 ⟨rfl, hb1⟩; obtain ⟨d0, d1, d2, d3, d4, d5, d6, d7⟩ := B0.out _ hb1))
    go_ret
    refine ⟨?_, nxt hb0 hb1⟩
    first | rfl | simp [hv]
 ·have hk' : (c.kind == 2) = false := by simpa using hk
  have e : openV c v = decide (c.view <= v) := by unfold openV; rw [a, if_neg hk]; rfl
  rw [e]
  clear e a h hk
  by_cases hv : c.view <= v
  all_goals
   go_enter Tryz.func106, Tryz.ntmps106
   go_wp2_with (first
    | (refine qaa rfl _ _ rfl w.heap.size rfl _ _ _ _ k0 Tryz.underlying29 rfl crtInfo ?_)
    | (go_at_call 59; refine (hm _).mono ?_; unfold gives; rintro e w1 ⟨rfl, hb1⟩; obtain ⟨d0, d1, d2, d3, d4, d5, d6, d7⟩ := B0.out _ hb1))
   go_ret
   refine ⟨?_, nxt hb0 hb1⟩
   first | rfl | simp [hv]
theorem qem (c : Crt) (v : Int) (b : Bool) (w : World) (h : c.wf) (hb : openV c v = b) : Calls Tryz.prog 106 #[.agg (crtC c), .int .i64 v] w (gives (.bool b) w) := by
 have := qie c v w h; rw [hb] at this; exact this
theorem three (a b c : Bool) : a = false ∨ (a = true /\ b = false) ∨ (a = true /\ b = true /\ c = false) ∨ (a = true /\ b = true /\ c = true) := by
 cases a <;> cases b <;> cases c <;> simp
theorem qiw {w : World} {ty : TypeId} {t : Tmo} : (w.alloc (.cells (tmC t) ty)).cell? ⟨w.heap.size, 0, none⟩ = some (.int .i64 t.signer) /\ (w.alloc (.cells (tmC t) ty)).cell? ⟨w.heap.size, 1, none⟩ = some (.int .i64 t.view) /\ (∀ j u, (crtL t.high)[j]? = some u -> (w.alloc (.cells (tmC t) ty)).cell? ((⟨w.heap.size, 2, none⟩ : Addr).add j) = some u) :=
 ⟨(qcp w ty t).cell 0, (qcp w ty t).cell 1, qaS (qcp w ty t) (qfu t)⟩
theorem qeM (t : Tmo) (w : World) (h : t.wf) : Calls Tryz.prog 65 #[.agg (tmC t)] w (gives (.int .i64 (errI (tmoV t) 121)) w) := by
 have hb0 : Below w.heap.size w (w.alloc (.cells (tmC t) 31)) := qae _ _
 obtain ⟨c0, c1, c2⟩ := qiw (w := w) (ty := 31) (t := t)
 have e : tmoV t = (okW t.signer 0 9 && okW t.view 1 1048576 && openV t.high t.view) := rfl
 rcases three (okW t.signer 0 9) (okW t.view 1 1048576) (openV t.high t.view) with a | ⟨a, b⟩ | ⟨a, b, d⟩ | ⟨a, b, d⟩
 ·have E : Hid (tmoV t = false) := hid (by rw [e, a]; rfl)
  clear e h
  go_enter Tryz.func65, Tryz.ntmps65
  go_wp2_with (go_at_call 126; refine (qd1 _ _ _ a).mono ?_; rintro e w1 ⟨rfl, rfl⟩)
  go_ret
  exact ⟨by rw [E.out]; rfl, hb0⟩
 ·have E : Hid (tmoV t = false) := hid (by rw [e, a, b]; rfl)
  clear e h
  go_enter Tryz.func65, Tryz.ntmps65
  go_wp2_with (first
   | (go_at_call 126; refine (qd1 _ _ _ a).mono ?_; rintro e w1 ⟨rfl, rfl⟩)
   | (go_at_call 127; refine (qc9 _ _ _ b).mono ?_; rintro e w1 ⟨rfl, rfl⟩))
  go_ret
  exact ⟨by rw [E.out]; rfl, hb0⟩
 all_goals
  have e2 : tmoV t = openV t.high t.view := by rw [e, a, b]; rfl
  have E := hid (e2.trans d)
  clear e2
  have hk := fun W => known_is t.high t.view _ W h.2.2 d
  clear e h
  go_enter Tryz.func65, Tryz.ntmps65
  go_wp2_with (first
   | (go_at_call 126; refine (qd1 _ _ _ a).mono ?_; rintro e w1 ⟨rfl, rfl⟩)
   | (go_at_call 127; refine (qc9 _ _ _ b).mono ?_; rintro e w1 ⟨rfl, rfl⟩)
   | (refine qaj rfl _ _ rfl ⟨w.heap.size, 2, none⟩ rfl (crtL t.high) _ c2 Tryz.underlying29 rfl crtInfo ?_)
   | (go_at_call 128; refine (hk _).mono ?_; unfold gives; rintro e w2 ⟨rfl, hb2⟩))
  go_ret
  exact ⟨by rw [E.out]; rfl, nxt hb0 hb2⟩
theorem qkw (t : Tmo) (b : Bool) (w : World) (h : t.wf) (hb : tmoV t = b) : Calls Tryz.prog 65 #[.agg (tmC t)] w (gives (.int .i64 (errI b 121)) w) := by
 have := qeM t w h; rw [hb] at this; exact this
end Go.Proofs.YtomaaidhmccngaaGreatDoor
