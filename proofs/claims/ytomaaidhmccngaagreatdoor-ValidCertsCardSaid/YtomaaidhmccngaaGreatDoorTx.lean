import Derived.Test.YtomaaidhmccngaaGreatDoorL1
import Derived.Test.YtomaaidhmccngaaGreatDoorL2
import Derived.Test.YtomaaidhmccngaaGreatDoorL3
set_option linter.unusedSimpArgs false
set_option linter.unusedVariables false
set_option maxRecDepth 100000
set_option maxHeartbeats 16000000
namespace Go.Proofs.YtomaaidhmccngaaGreatDoor
open Go.RowKit Go.Lib
open L2 (chk vlu nums dec runes ltr led)
open L3 (encN rdN numS textS textV mostV mostS failS)
structure Txx where
 kind : Int
 frm : List UInt8
 to : List UInt8
 key : List UInt8
 val : List UInt8
 amount : Int
 nonce : Int
deriving DecidableEq, Inhabited
def zeroX : Txx := ⟨0, [], [], [], [], 0, 0⟩
def posN (n : Int) : Bool := decide (1 <= n /\ n <= 4611686018427387904)
theorem qbB {n : Int} (h : posN n = true) : 1 <= n /\ n <= 4611686018427387904 := of_decide_eq_true h
def right (t : Txx) : Bool :=
 posN t.nonce && chk t.frm && ((decide (t.kind = 1) && (chk t.to && posN t.amount && t.key.isEmpty && t.val.isEmpty)) || (decide (t.kind = 2) && (chk t.key && vlu t.val && t.to.isEmpty && decide (t.amount = 0))))
theorem qcf {t : Txx} (h : right t = true) (hk : t.kind = 1) : posN t.nonce = true /\ chk t.frm = true /\ chk t.to = true /\ posN t.amount = true /\ t.key = [] /\ t.val = [] := by
 unfold right at h
 rw [hk] at h
 simp only [Bool.and_eq_true, Bool.or_eq_true, decide_eq_true_eq, List.isEmpty_iff] at h
 obtain ⟨⟨h1, h2⟩, h3 | h3⟩ := h
 ·exact ⟨h1, h2, h3.2.1.1.1, h3.2.1.1.2, h3.2.1.2, h3.2.2⟩
 ·omega
theorem qc7 {t : Txx} (h : right t = true) (hk : t.kind ≠ 1) : posN t.nonce = true /\ chk t.frm = true /\ chk t.key = true /\ vlu t.val = true /\ t.to = [] /\ t.amount = 0 /\ t.kind = 2 := by
 unfold right at h
 simp only [Bool.and_eq_true, Bool.or_eq_true, decide_eq_true_eq, List.isEmpty_iff] at h
 obtain ⟨⟨h1, h2⟩, h3 | h3⟩ := h
 ·exact absurd h3.1 hk
 ·exact ⟨h1, h2, h3.2.1.1.1, h3.2.1.1.2, h3.2.1.2, h3.2.2, h3.1⟩
theorem qgb (l : List UInt8) : l.length <= 4 * (runes l).length := by
 induction l using L2.qhQ with
 | h0 => simp [L2.qhS]
 | h1 l hl ih =>
   have hd := L2.qb8 l hl
   rw [L2.qc8 hl, List.length_cons]
   rw [List.length_drop] at ih
   omega
theorem qbQ {l : List UInt8} (h : chk l = true) : l.length <= 128 := by
 have h1 := qgb l
 have h2 := ((L2.qio l).1 h).2.1
 rw [L2.qcG] at h2
 omega
theorem qgg {l : List UInt8} (h : vlu l = true) : l.length <= 128 := by
 rw [L2.qnb] at h
 simp only [Bool.and_eq_true, decide_eq_true_eq] at h
 have h1 := qgb l
 have h2 := h.1.1
 rw [L2.qcG] at h2
 omega
def txtB (l : List UInt8) : List UInt8 := encN l.length ++ l
def bytesT (t : Txx) : List UInt8 := encN t.kind.toNat ++ (encN t.nonce.toNat ++ (txtB t.frm ++ (if t.kind = 1 then txtB t.to ++ encN t.amount.toNat else txtB t.key ++ txtB t.val)))
def numV (p : List UInt8 × Int) : Int := (rdN 0 0 p.1).1
def endT (t : Txx) (p : List UInt8 × Int) : Txx × (List UInt8 × Int) := if p.2 ≠ 0 ∨ right t = false then (zeroX, failS 80 p) else (t, p)
def takeT (p : List UInt8 × Int) : Txx × (List UInt8 × Int) :=
 if numV p ≠ 1 /\ numV p ≠ 2 then (zeroX, failS 80 (numS p))
 else if numV p = 1 then endT ⟨1, textV (numS (numS p)), textV (textS (numS (numS p))), [], [], numV (textS (textS (numS (numS p)))), numV (numS p)⟩ (numS (textS (textS (numS (numS p)))))
 else endT ⟨2, textV (numS (numS p)), [], textV (textS (numS (numS p))), textV (textS (textS (numS (numS p)))), 0, numV (numS p)⟩ (textS (textS (textS (numS (numS p)))))
theorem qbr (n : Nat) (rest : List UInt8) (h : n <= 4611686018427387904) : numV (encN n ++ rest, 0) = n /\ numS (encN n ++ rest, 0) = (rest, 0) := by
 have hr := L3.qi6 n rest h
 unfold numV L3.numS
 simp only [hr]
 exact ⟨trivial, by rw [if_pos trivial, List.drop_left]⟩
theorem qdc (s rest : List UInt8) (h : s.length <= 65536) : textV (txtB s ++ rest, 0) = s /\ textS (txtB s ++ rest, 0) = (rest, 0) := by
 have hr := L3.qi6 s.length (s ++ rest) (by omega)
 have hn := (qbr s.length (s ++ rest) (by omega)).2
 have e : txtB s ++ rest = encN s.length ++ (s ++ rest) := List.append_assoc ..
 have hv : mostV 65536 (encN s.length ++ (s ++ rest), 0) = s.length := by unfold L3.mostV; simp only [hr]; rw [if_neg (by omega)]
 have hm : mostS 65536 (encN s.length ++ (s ++ rest), 0) = (s ++ rest, 0) := by unfold L3.mostS; simp only [hr]; rw [if_neg (by omega), hn]
 unfold L3.textV L3.textS
 rw [e, hv, hm]
 have hle : ¬ (((s ++ rest).length : Nat) : Int) < (s.length : Int) := by rw [List.length_append]; omega
 exact ⟨by rw [if_neg hle]; simp, by rw [if_neg hle]; simp⟩
theorem qdu (t : Txx) (rest : List UInt8) (h : right t = true) : takeT (bytesT t ++ rest, 0) = (t, (rest, 0)) := by
 have hend : ∀ p : List UInt8 × Int, p.2 = 0 -> endT t p = (t, p) := fun p hp => by unfold endT; rw [if_neg (by rw [hp, h]; simp)]
 by_cases hk : t.kind = 1
 ·obtain ⟨h1, h2, h3, h4, h5, h6⟩ := qcf h hk
  obtain ⟨kd, fr, to, ky, vl, am, no⟩ := t
  dsimp only at hk h1 h2 h3 h4 h5 h6
  subst hk h5 h6
  have hn := qbB h1
  have ha := qbB h4
  have e : bytesT ⟨1, fr, to, [], [], am, no⟩ ++ rest = encN 1 ++ (encN no.toNat ++ (txtB fr ++ (txtB to ++ (encN am.toNat ++ rest)))) := by
   unfold bytesT; rw [if_pos rfl]; simp
  obtain ⟨k1, k2⟩ := qbr 1 (encN no.toNat ++ (txtB fr ++ (txtB to ++ (encN am.toNat ++ rest)))) (by omega)
  obtain ⟨n1, n2⟩ := qbr no.toNat (txtB fr ++ (txtB to ++ (encN am.toNat ++ rest))) (by omega)
  obtain ⟨f1, f2⟩ := qdc fr (txtB to ++ (encN am.toNat ++ rest)) (by have := qbQ h2; omega)
  obtain ⟨t1, t2⟩ := qdc to (encN am.toNat ++ rest) (by have := qbQ h3; omega)
  obtain ⟨a1, a2⟩ := qbr am.toNat rest (by omega)
  have en : ((no.toNat : Nat) : Int) = no := Int.toNat_of_nonneg (by omega)
  have ea : ((am.toNat : Nat) : Int) = am := Int.toNat_of_nonneg (by omega)
  rw [en] at n1
  rw [ea] at a1
  rw [e]
  unfold takeT
  simp only [k1, k2, n1, n2, f1, f2, t1, t2, a1, a2]
  rw [if_neg (by simp), if_pos (by rfl)]
  exact hend _ rfl
 ·obtain ⟨h1, h2, h3, h4, h5, h6, h7⟩ := qc7 h hk
  obtain ⟨kd, fr, to, ky, vl, am, no⟩ := t
  dsimp only at hk h1 h2 h3 h4 h5 h6 h7
  subst h7 h5 h6
  have hn := qbB h1
  have e : bytesT ⟨2, fr, [], ky, vl, 0, no⟩ ++ rest = encN 2 ++ (encN no.toNat ++ (txtB fr ++ (txtB ky ++ (txtB vl ++ rest)))) := by
   unfold bytesT; rw [if_neg (show ¬ (2 : Int) = 1 by decide)]; simp
  obtain ⟨k1, k2⟩ := qbr 2 (encN no.toNat ++ (txtB fr ++ (txtB ky ++ (txtB vl ++ rest)))) (by omega)
  obtain ⟨n1, n2⟩ := qbr no.toNat (txtB fr ++ (txtB ky ++ (txtB vl ++ rest))) (by omega)
  obtain ⟨f1, f2⟩ := qdc fr (txtB ky ++ (txtB vl ++ rest)) (by have := qbQ h2; omega)
  obtain ⟨t1, t2⟩ := qdc ky (txtB vl ++ rest) (by have := qbQ h3; omega)
  obtain ⟨a1, a2⟩ := qdc vl rest (by have := qgg h4; omega)
  have en : ((no.toNat : Nat) : Int) = no := Int.toNat_of_nonneg (by omega)
  rw [en] at n1
  rw [e]
  unfold takeT
  simp only [k1, k2, n1, n2, f1, f2, t1, t2, a1, a2]
  rw [if_neg (by simp), if_neg (by decide)]
  exact hend _ rfl
