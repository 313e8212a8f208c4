import Derived.Test.YtomaaidhmccngaaGreatDoorB1
set_option linter.unusedSimpArgs false
set_option linter.unusedVariables false
set_option maxRecDepth 100000
set_option maxHeartbeats 16000000
namespace Go.Proofs.YtomaaidhmccngaaGreatDoor
open Go.RowKit Go.Lib
open L3 (numS failS rdN mostS mostV textS textV)
open L11 (Crt zeroC mayV takeC readC nS fitV fitU okW)
def invS (p : List UInt8 × Int) : Prop := p.2 ≠ 0 -> p.1 = []
def deadS (p : List UInt8 × Int) : Prop := p.2 ≠ 0 /\ p.1 = []
def eqvS (p q : List UInt8 × Int) : Prop := p.1 = q.1 /\ (p.2 = 0 ↔ q.2 = 0)
theorem deadS.inv {p : List UInt8 × Int} (h : deadS p) : invS p := fun _ => h.2
theorem qjc {p q : List UInt8 × Int} (h : deadS p) (k : deadS q) : eqvS p q := ⟨h.2.trans k.2.symm, fun e => absurd e h.1, fun e => absurd e k.1⟩
theorem qhy {p : List UInt8 × Int} (h : deadS p) : numV p = 0 /\ numS p = p := by
 obtain ⟨l, e⟩ := p
 obtain ⟨h1, h2⟩ := h
 dsimp only at h1 h2
 subst h2
 refine ⟨rfl, ?_⟩
 unfold L3.numS L3.failS
 have e1 : (rdN 0 0 ([] : List UInt8)).2.2 = 30 := rfl
 dsimp only
 rw [e1, if_neg (by decide), if_pos (.inl h1)]
theorem qbO {p : List UInt8 × Int} (e : Int) (h : invS p) : invS (failS e p) := by
 unfold L3.failS
 split
 ·exact h
 ·exact fun _ => rfl
theorem qc3 {p : List UInt8 × Int} {e : Int} (h : invS p) (he : e ≠ 0) : deadS (failS e p) := by
 unfold L3.failS
 by_cases h1 : p.2 ≠ 0
 ·rw [if_pos (.inl h1)]; exact ⟨h1, h h1⟩
 ·rw [if_neg (by rintro (h2 | h2) <;> contradiction)]; exact ⟨he, rfl⟩
theorem qbf {p : List UInt8 × Int} (h : invS p) : invS (numS p) := by
 unfold L3.numS
 split
 ·intro h1
  have := h h1
  show p.1.drop _ = []
  rw [this]; simp
 ·exact qbO _ h
theorem qfi {p : List UInt8 × Int} (m : Int) (h : invS p) : invS (mostS m p) := by
 unfold L3.mostS
 split
 ·exact qbO _ (qbf h)
 ·exact qbf h
theorem qdb {p : List UInt8 × Int} (h : invS p) : invS (textS p) := by
 have hm := qfi 65536 h
 unfold L3.textS
 split
 ·exact qbO _ hm
 ·intro h1
  have := hm h1
  show List.drop _ _ = []
  rw [this]; simp
theorem qex (p : List UInt8 × Int) : 0 <= numV p := Int.natCast_nonneg _
def nxV (m : Int) (p : List UInt8 × Int) : Int := if m < numV p then 0 else numV p
def nxS (m : Int) (p : List UInt8 × Int) : List UInt8 × Int := if m < numV p then failS 110 (numS p) else numS p
theorem qeA {m : Int} {p : List UInt8 × Int} (hi : invS p) (h : m < numV p) : nxV m p = 0 /\ deadS (nxS m p) := by
 unfold nxV nxS
 rw [if_pos h, if_pos h]
 exact ⟨rfl, qc3 (qbf hi) (by decide)⟩
theorem qbU {m : Int} {p : List UInt8 × Int} (h : ¬ m < numV p) : nxV m p = numV p /\ nxS m p = numS p := by
 unfold nxV nxS
 rw [if_neg h, if_neg h]
 exact ⟨rfl, rfl⟩
theorem nx_dead {m : Int} {p : List UInt8 × Int} (hm : 0 <= m) (h : deadS p) : nxV m p = 0 /\ nxS m p = p := by
 obtain ⟨h1, h2⟩ := qhy h
 obtain ⟨h3, h4⟩ := qbU (m := m) (p := p) (by omega)
 rw [h3, h4]
 exact ⟨h1, h2⟩
theorem qcV {m : Int} (p : List UInt8 × Int) (hm : 0 <= m) : 0 <= nxV m p /\ nxV m p <= m := by
 have := qex p
 unfold nxV
 split <;> omega
def endD (c : Crt) (q : List UInt8 × Int) : Crt × (List UInt8 × Int) := if q.2 ≠ 0 then (zeroC, q) else if mayV c = false then (zeroC, failS 110 q) else (c, q)
def docC (p : List UInt8 × Int) : Crt × (List UInt8 × Int) :=
 let k := nxV 2 p
 let q0 := nxS 2 p
 let q1 := nxS 2147483647 q0
 let q2 := nxS 1048576 q1
 let q3 := nxS 1073741824 q2
 let q4 := nxS 1023 q3
 let q5 := nxS 3 q4
 let q6 := nxS 9 q5
 let q7 := nxS 1023 q6
 if k = 0 then endD ⟨k, 0, 0, 0, 0, 0, 0, 0⟩ q0
 else if k = 2 then endD ⟨k, nxV 2147483647 q0, nxV 1048576 q1, nxV 1073741824 q2, nxV 3 q4, nxV 9 q5, (nxV 1023 q3).toNat, (nxV 1023 q6).toNat⟩ q7
 else endD ⟨k, nxV 2147483647 q0, nxV 1048576 q1, nxV 1073741824 q2, 0, 0, (nxV 1023 q3).toNat, 0⟩ q4
def limC (p : List UInt8 × Int) : Prop :=
 numV p <= 2 /\ (numV p ≠ 0 -> numV (nS 1 p) <= 2147483647 /\ numV (nS 2 p) <= 1048576 /\ numV (nS 3 p) <= 1073741824 /\ numV (nS 4 p) <= 1023) /\ (numV p = 2 -> numV (nS 5 p) <= 3 /\ numV (nS 6 p) <= 9 /\ numV (nS 7 p) <= 1023)
theorem qcF {n : Int} (h : n <= 2147483647) : fitV n = n := by unfold L11.fitV; rw [if_neg (by omega)]
theorem qje {n : Int} (h : n <= 2147483647) : fitU n = n.toNat := by unfold L11.fitU; rw [if_neg (by omega)]
theorem qck {n : Int} (h : 0 <= fitV n) : fitV n = n := by unfold L11.fitV at h ⊢; split at h <;> (first | omega | (split <;> omega))
theorem qcX {n lo hi : Int} (h : okW n lo hi = true) : lo <= n /\ n <= hi := of_decide_eq_true h
theorem qiw {n : Int} (h : L11.setV (fitU n) = true) (hn : 0 <= n) : n <= 1023 := by
 have h2 : fitU n < 1024 := of_decide_eq_true h
 unfold L11.fitU at h2
 split at h2 <;> omega
theorem qkq {p : List UInt8 × Int} (h : mayV (readC p).1 = true) : limC p := by
 have e0 : L11.numV p = numV p := rfl
 have e : ∀ k, L11.numV (nS k p) = numV (nS k p) := fun k => rfl
 have n4 := qex (nS 4 p)
 have n7 := qex (nS 7 p)
 have n0 := qex p
 unfold L11.readC at h
 simp only [e0, e] at h
 unfold limC
 by_cases h1 : fitV (numV p) = 1
 ·rw [if_pos h1] at h
  have k1 : numV p = 1 := by rw [<- qck (n := numV p) (by omega)]; exact h1
  unfold L11.mayV L11.sgV at h
  simp only [Bool.and_eq_true, decide_eq_true_eq] at h
  simp at h
  obtain ⟨⟨⟨⟨a1, a2⟩, a3⟩, a4⟩, a5⟩ := h
  have b1 := qcX a1
  have b2 := qcX a2
  have b3 := qcX a3
  have c1 := qck (n := numV (nS 1 p)) (by omega)
  have c2 := qck (n := numV (nS 2 p)) (by omega)
  have c3 := qck (n := numV (nS 3 p)) (by omega)
  have c4 := qiw a5 n4
  exact ⟨by omega, fun _ => ⟨by omega, by omega, by omega, c4⟩, fun h2 => by omega⟩
 ·rw [if_neg h1] at h
  by_cases h2 : fitV (numV p) = 2
  ·rw [if_pos h2] at h
   have k1 : numV p = 2 := by rw [<- qck (n := numV p) (by omega)]; exact h2
   unfold L11.mayV L11.sgV at h
   simp only [Bool.and_eq_true, decide_eq_true_eq] at h
   simp at h
   obtain ⟨⟨⟨⟨⟨⟨⟨a1, a2⟩, a3⟩, a4⟩, a5⟩, a6⟩, a7⟩, a8⟩ := h
   have b1 := qcX a1
   have b2 := qcX a2
   have b3 := qcX a3
   have b6 := qcX a6
   have b7 := qcX a7
   have c1 := qck (n := numV (nS 1 p)) (by omega)
   have c2 := qck (n := numV (nS 2 p)) (by omega)
   have c3 := qck (n := numV (nS 3 p)) (by omega)
   have c6 := qck (n := numV (nS 5 p)) (by omega)
   have c7 := qck (n := numV (nS 6 p)) (by omega)
   have c4 := qiw a5 n4
   have c8 := qiw a8 n7
   exact ⟨by omega, fun _ => ⟨by omega, by omega, by omega, c4⟩, fun _ => ⟨by omega, by omega, c8⟩⟩
  ·rw [if_neg h2] at h
   unfold L11.mayV at h
   dsimp only at h
   by_cases h0 : fitV (numV p) = 0
   ·have k1 : numV p = 0 := by rw [<- qck (n := numV p) (by omega)]; exact h0
    exact ⟨by omega, fun h3 => absurd k1 h3, fun h3 => by omega⟩
   ·rw [if_neg h0, if_neg h1, if_neg h2] at h
    cases h
theorem qcU {p : List UInt8 × Int} (h : invS p) : ∀ k, invS (nS k p)
 | 0 => h
 | k + 1 => qbf (qcU h k)
theorem doc_lim {p : List UInt8 × Int} (h : limC p) : docC p = endD (readC p).1 (readC p).2 := by
 obtain ⟨h0, h1, h2⟩ := h
 have n0 := qex p
 have e0 : L11.numV p = numV p := rfl
 have e : ∀ k, L11.numV (nS k p) = numV (nS k p) := fun k => rfl
 obtain ⟨v0, s0⟩ := qbU (m := 2) (p := p) (by omega)
 have s0' : nxS 2 p = nS 1 p := s0
 unfold docC L11.readC
 simp only [v0, s0', e0, e]
 by_cases k0 : numV p = 0
 ·rw [if_pos k0, qcF (by omega), if_neg (by omega), if_neg (by omega)]
 ·obtain ⟨l1, l2, l3, l4⟩ := h1 k0
  obtain ⟨v1, s1⟩ := qbU (m := 2147483647) (p := nS 1 p) (by omega)
  have s1' : nxS 2147483647 (nS 1 p) = nS 2 p := s1
  obtain ⟨v2, s2⟩ := qbU (m := 1048576) (p := nS 2 p) (by omega)
  have s2' : nxS 1048576 (nS 2 p) = nS 3 p := s2
  obtain ⟨v3, s3⟩ := qbU (m := 1073741824) (p := nS 3 p) (by omega)
  have s3' : nxS 1073741824 (nS 3 p) = nS 4 p := s3
  obtain ⟨v4, s4⟩ := qbU (m := 1023) (p := nS 4 p) (by omega)
  have s4' : nxS 1023 (nS 4 p) = nS 5 p := s4
  rw [if_neg k0, qcF (show numV p <= 2147483647 by omega), qcF (show numV (nS 1 p) <= 2147483647 by omega), qcF (show numV (nS 2 p) <= 2147483647 by omega), qcF (show numV (nS 3 p) <= 2147483647 by omega), qje (show numV (nS 4 p) <= 2147483647 by omega)]
  simp only [s1', s2', s3', s4', v1, v2, v3, v4]
  by_cases k2 : numV p = 2
  ·obtain ⟨l5, l6, l7⟩ := h2 k2
   obtain ⟨v5, s5⟩ := qbU (m := 3) (p := nS 5 p) (by omega)
   have s5' : nxS 3 (nS 5 p) = nS 6 p := s5
   obtain ⟨v6, s6⟩ := qbU (m := 9) (p := nS 6 p) (by omega)
   have s6' : nxS 9 (nS 6 p) = nS 7 p := s6
   obtain ⟨v7, s7⟩ := qbU (m := 1023) (p := nS 7 p) (by omega)
   have s7' : nxS 1023 (nS 7 p) = nS 8 p := s7
   rw [if_pos k2, if_neg (by omega), if_pos k2, qcF (show numV (nS 5 p) <= 2147483647 by omega), qcF (show numV (nS 6 p) <= 2147483647 by omega), qje (show numV (nS 7 p) <= 2147483647 by omega)]
   simp only [s5', s6', s7', v5, v6, v7, k2]
  ·have k1 : numV p = 1 := by omega
   rw [if_neg k2, if_pos k1]
   simp only [k1]
theorem qlx {c : Crt} {q : List UInt8 × Int} (h : deadS q) : endD c q = (zeroC, q) := by unfold endD; rw [if_pos h.1]
theorem doc_no {p : List UInt8 × Int} (hi : invS p) (h : ¬ limC p) : (docC p).1 = zeroC /\ deadS (docC p).2 := by
 have fin : ∀ c q, deadS q -> (endD c q).1 = zeroC /\ deadS (endD c q).2 := fun c q hq => by rw [qlx hq]; exact ⟨rfl, hq⟩
 have n0 := qex p
 unfold docC
 dsimp only
 by_cases b0 : 2 < numV p
 ·obtain ⟨v0, d0⟩ := qeA hi b0
  rw [v0, if_pos rfl]
  exact fin _ _ d0
 obtain ⟨v0, s0⟩ := qbU b0
 have s0' : nxS 2 p = nS 1 p := s0
 rw [v0, s0']
 by_cases k0 : numV p = 0
 ·exact absurd ⟨by omega, fun h1 => absurd k0 h1, fun h1 => by omega⟩ h
 rw [if_neg k0]
 have i1 := qcU hi 1
 have step : ∀ m q, 0 <= m -> deadS q -> deadS (nxS m q) := fun m q hm hq => by rw [(nx_dead hm hq).2]; exact hq
 have both : ∀ (q4 : List UInt8 × Int) (c1 c2 : Crt), deadS q4 -> ((if numV p = 2 then endD c1 (nxS 1023 (nxS 9 (nxS 3 q4))) else endD c2 q4)).1 = zeroC /\ deadS ((if numV p = 2 then endD c1 (nxS 1023 (nxS 9 (nxS 3 q4))) else endD c2 q4)).2 := fun q4 c1 c2 hq => by
  split
  ·exact fin _ _ (step _ _ (by decide) (step _ _ (by decide) (step _ _ (by decide) hq)))
  ·exact fin _ _ hq
 by_cases b1 : 2147483647 < numV (nS 1 p)
 ·exact both _ _ _ (step _ _ (by decide) (step _ _ (by decide) (step _ _ (by decide) (qeA i1 b1).2)))
 obtain ⟨v1, s1⟩ := qbU b1
 have s1' : nxS 2147483647 (nS 1 p) = nS 2 p := s1
 rw [s1']
 by_cases b2 : 1048576 < numV (nS 2 p)
 ·exact both _ _ _ (step _ _ (by decide) (step _ _ (by decide) (qeA (qcU hi 2) b2).2))
 obtain ⟨v2, s2⟩ := qbU b2
 have s2' : nxS 1048576 (nS 2 p) = nS 3 p := s2
 rw [s2']
 by_cases b3 : 1073741824 < numV (nS 3 p)
 ·exact both _ _ _ (step _ _ (by decide) (qeA (qcU hi 3) b3).2)
 obtain ⟨v3, s3⟩ := qbU b3
 have s3' : nxS 1073741824 (nS 3 p) = nS 4 p := s3
 rw [s3']
 by_cases b4 : 1023 < numV (nS 4 p)
 ·exact both _ _ _ (qeA (qcU hi 4) b4).2
 obtain ⟨v4, s4⟩ := qbU b4
 have s4' : nxS 1023 (nS 4 p) = nS 5 p := s4
 rw [s4']
 by_cases k2 : numV p = 2
 ·rw [if_pos k2]
  by_cases b5 : 3 < numV (nS 5 p)
  ·exact fin _ _ (step _ _ (by decide) (step _ _ (by decide) (qeA (qcU hi 5) b5).2))
  obtain ⟨v5, s5⟩ := qbU b5
  have s5' : nxS 3 (nS 5 p) = nS 6 p := s5
  rw [s5']
  by_cases b6 : 9 < numV (nS 6 p)
  ·exact fin _ _ (step _ _ (by decide) (qeA (qcU hi 6) b6).2)
  obtain ⟨v6, s6⟩ := qbU b6
  have s6' : nxS 9 (nS 6 p) = nS 7 p := s6
  rw [s6']
  by_cases b7 : 1023 < numV (nS 7 p)
  ·exact fin _ _ (qeA (qcU hi 7) b7).2
  exact absurd ⟨by omega, fun _ => ⟨by omega, by omega, by omega, by omega⟩, fun _ => ⟨by omega, by omega, by omega⟩⟩ h
 ·exact absurd ⟨by omega, fun _ => ⟨by omega, by omega, by omega, by omega⟩, fun h1 => absurd h1 k2⟩ h
theorem qi7 (p : List UInt8 × Int) : (readC p).2 = nS 5 p ∨ (readC p).2 = nS 8 p ∨ (readC p).2 = nS 1 p := by
 unfold L11.readC
 generalize nS 5 p = s5
 generalize nS 8 p = s8
 generalize nS 1 p = s1
 by_cases h1 : fitV (L11.numV p) = 1
 ·simp only [if_pos h1]; exact .inl trivial
 ·by_cases h2 : fitV (L11.numV p) = 2
  ·simp only [if_neg h1, if_pos h2]; exact .inr (.inl trivial)
  ·simp only [if_neg h1, if_neg h2]; exact .inr (.inr trivial)
theorem qfn {p : List UInt8 × Int} (h : invS p) : invS (readC p).2 := by
 have h1 := qcU h 1
 have h5 := qcU h 5
 have h8 := qcU h 8
 rcases qi7 p with e | e | e
 ·rw [e]; exact h5
 ·rw [e]; exact h8
 ·rw [e]; exact h1
theorem qfy {p : List UInt8 × Int} (h : invS p) : invS (takeC p).2 := by
 unfold L11.takeC
 split
 ·exact qbO _ (qfn h)
 ·exact qfn h
theorem docC_eq {p : List UInt8 × Int} (hi : invS p) : (docC p).1 = (takeC p).1 /\ eqvS (docC p).2 (takeC p).2 /\ invS (docC p).2 := by
 have hr := qfn hi
 by_cases h : limC p
 ·rw [doc_lim h]
  unfold endD L11.takeC
  by_cases h1 : (readC p).2.2 ≠ 0
  ·rw [if_pos h1, if_pos (.inl h1)]
   have e : failS 110 (readC p).2 = (readC p).2 := by unfold L3.failS; rw [if_pos (.inl h1)]
   rw [e]
   exact ⟨rfl, ⟨rfl, Iff.rfl⟩, hr⟩
  ·rw [if_neg h1]
   by_cases h2 : mayV (readC p).1 = false
   ·rw [if_pos h2, if_pos (.inr h2)]
    exact ⟨rfl, ⟨rfl, Iff.rfl⟩, qbO _ hr⟩
   ·rw [if_neg h2, if_neg (by rintro (h3 | h3) <;> contradiction)]
    exact ⟨rfl, ⟨rfl, Iff.rfl⟩, hr⟩
 ·obtain ⟨h1, h2⟩ := doc_no hi h
  have h3 : mayV (readC p).1 = false := by
   cases hm : mayV (readC p).1
   ·rfl
   ·exact absurd (qkq hm) h
  have h4 : takeC p = (zeroC, failS 110 (readC p).2) := by unfold L11.takeC; rw [if_pos (.inr h3)]
  rw [h4]
  exact ⟨h1, qjc h2 (qc3 hr (by decide)), h2.inv⟩
theorem qmN {p : List UInt8 × Int} (h : invS p) : invS (takeT p).2 := by
 have e : ∀ t q, invS q -> invS (endT t q).2 := fun t q hq => by
  unfold endT
  split
  ·exact qbO _ hq
  ·exact hq
 unfold takeT
 split
 ·exact qbO _ (qbf h)
 ·split
  ·exact e _ _ (qbf (qdb (qdb (qbf (qbf h)))))
  ·exact e _ _ (qdb (qdb (qdb (qbf (qbf h)))))
end Go.Proofs.YtomaaidhmccngaaGreatDoor
namespace Go.Proofs.YtomaaidhmccngaaGreatDoor
open Go.RowKit Go.Lib
open L3 (numS failS rdN mostS mostV textS textV doneV)
open L11 (Crt zeroC mayV takeC)
def oneD (v : Int) (p : List UInt8 × Int) : Tmo × (List UInt8 × Int) := (⟨numV p, v, (takeC (numS p)).1⟩, (takeC (numS p)).2)
theorem itD (v v' : Int) (s : List UInt8 × Int) : ∀ n, itG (oneD v) n s = itG (oneT v') n s
 | 0 => rfl
 | n + 1 => by
   show (takeC (numS (itG (oneD v) n s))).2 = (takeC (numS (itG (oneT v') n s))).2
   rw [itD v v' s n]
theorem rS_inv {p : List UInt8 × Int} (h : invS p) : invS (rS p) := qbf (qbf (qbf (qbf h)))
theorem qlJ (v : Int) {s : List UInt8 × Int} (h : invS s) : ∀ n, invS (itG (oneT v) n s)
 | 0 => h
 | n + 1 => qfy (qbf (qlJ v h n))
theorem qlK {s : List UInt8 × Int} (h : invS s) : ∀ n, invS (itG takeT n s)
 | 0 => h
 | n + 1 => qmN (qlK h n)
def sPar (p : List UInt8 × Int) : List UInt8 × Int := (takeC (rS p)).2
def nTm (p : List UInt8 × Int) : Nat := (mostV 10 (sPar p)).toNat
def sCnt (p : List UInt8 × Int) : List UInt8 × Int := mostS 10 (sPar p)
def sTm (p : List UInt8 × Int) : List UInt8 × Int := itG (oneD (numV p)) (nTm p) (sCnt p)
def nTx (p : List UInt8 × Int) : Nat := (mostV 8 (sTm p)).toNat
def sCnx (p : List UInt8 × Int) : List UInt8 × Int := mostS 8 (sTm p)
def sTx (p : List UInt8 × Int) : List UInt8 × Int := itG takeT (nTx p) (sCnx p)
def docB (p : List UInt8 × Int) : Blo :=
 ⟨numV p, numV (numS p), numV (numS (numS p)), numV (numS (numS (numS p))), (takeC (rS p)).1, listG (oneD (numV p)) (nTm p) (sCnt p), listG takeT (nTx p) (sCnx p)⟩
theorem sTm_eq (p : List UInt8 × Int) (v : Int) : sTm p = itG (oneT v) (nTm p) (sCnt p) := itD _ _ _ _
theorem sPar_inv {p : List UInt8 × Int} (h : invS p) : invS (sPar p) := qfy (rS_inv h)
theorem sCnt_inv {p : List UInt8 × Int} (h : invS p) : invS (sCnt p) := qfi _ (sPar_inv h)
theorem sTm_inv {p : List UInt8 × Int} (h : invS p) : invS (sTm p) := by rw [sTm_eq p 0]; exact qlJ 0 (sCnt_inv h) _
theorem sCnx_inv {p : List UInt8 × Int} (h : invS p) : invS (sCnx p) := qfi _ (sTm_inv h)
theorem sTx_inv {p : List UInt8 × Int} (h : invS p) : invS (sTx p) := qlK (sCnx_inv h) _
theorem qgA (p : List UInt8 × Int) : readB p = (⟨fitB (numV p), fitB (numV (numS p)), fitB (numV (numS (numS p))), fitB (numV (numS (numS (numS p)))), (takeC (rS p)).1, listG (oneT (fitB (numV p))) (nTm p) (sCnt p), listG takeT (nTx p) (sCnx p)⟩, sTx p) := by
 unfold sTx sCnx nTx
 rw [sTm_eq p (fitB (numV p))]
 rfl
theorem listD {v v' : Int} {s : List UInt8 × Int} {n : Nat} (hv : v = v') (h : ∀ k, k < n -> fitB (numV (itG (oneT v) k s)) = numV (itG (oneT v) k s)) : listG (oneD v') n s = listG (oneT v) n s := by
 subst hv
 unfold listG
 refine List.map_congr_left fun k hk => ?_
 have hk' := List.mem_range.1 hk
 rw [itD v v s k]
 show (⟨numV (itG (oneT v) k s), v, (takeC (numS (itG (oneT v) k s))).1⟩ : Tmo) = ⟨fitB (numV (itG (oneT v) k s)), v, (takeC (numS (itG (oneT v) k s))).1⟩
 rw [h k hk']
theorem qjn {α : Type} [Inhabited α] (one : List UInt8 × Int -> α × (List UInt8 × Int)) {n k : Nat} {p : List UInt8 × Int} (h : k < n) : (listG one n p)[k]! = (one (itG one k p)).1 := by
 unfold listG
 rw [getElem!_pos _ k (by simpa using h)]
 simp
theorem qfl {b : Blo} (h : provenV b = true) : ∀ k, k < b.proof.length -> tmoV (b.proof[k]!) = true := by
 intro k hk
 unfold provenV at h
 split at h
 ·simp only [Bool.and_eq_true] at h
  have := qj3 h.2 hk
  unfold riseAt at this
  simp only [Bool.and_eq_true] at this
  exact this.1.1
 ·have : b.proof = [] := List.isEmpty_iff.1 h
  rw [this] at hk
  exact absurd hk (by simp)
theorem doc_code {p : List UInt8 × Int} (h : checkV (readB p).1 = 0) : docB p = (readB p).1 := by
 obtain ⟨h1, h2, h3⟩ := qb3 h
 have f1 := qb4 h1
 have f2 := qbb h2
 have f3 := qfl h3
 rw [qgA] at f1 f2 f3 ⊢
 dsimp only at f1 f2 f3 ⊢
 have e1 := qbw (n := numV p) (by omega)
 have e2 := qbw (n := numV (numS p)) (by omega)
 have e3 := qbw (n := numV (numS (numS p))) (by omega)
 have e4 := qbw (n := numV (numS (numS (numS p)))) (by omega)
 have e5 : listG (oneD (numV p)) (nTm p) (sCnt p) = listG (oneT (fitB (numV p))) (nTm p) (sCnt p) := by
  refine listD e1 fun k hk => qbw ?_
  have := f3 k (by rw [qbh]; exact hk)
  rw [qjn _ hk] at this
  have := (qbD this).1.1
  exact this
 unfold docB
 rw [e5, e2, e3, e4, e1]
theorem qjb {p : List UInt8 × Int} (h : checkV (docB p) = 0) : docB p = (readB p).1 := by
 obtain ⟨h1, h2, h3⟩ := qb3 h
 have f1 := qb4 h1
 have f2 := qbb h2
 have f3 := qfl h3
 rw [qgA]
 unfold docB at f1 f2 f3 ⊢
 dsimp only at f1 f2 f3 ⊢
 have e1 := qbk (n := numV p) (by omega)
 have e2 := qbk (n := numV (numS p)) (by omega)
 have e3 := qbk (n := numV (numS (numS p))) (by omega)
 have e4 := qbk (n := numV (numS (numS (numS p)))) (by omega)
 have e5 : listG (oneD (numV p)) (nTm p) (sCnt p) = listG (oneT (fitB (numV p))) (nTm p) (sCnt p) := by
  refine listD e1 fun k hk => qbk ?_
  have := f3 k (by rw [qbh]; exact hk)
  rw [qjn _ hk] at this
  have h9 := (qbD this).1.2
  have h9' : numV (itG (oneD (numV p)) k (sCnt p)) <= 9 := h9
  rw [itD _ (fitB (numV p))] at h9'
  omega
 rw [e5, e2, e3, e4, e1]
theorem qjY (p : List UInt8 × Int) : checkV (docB p) = 0 ↔ checkV (readB p).1 = 0 := ⟨fun h => by rw [<- qjb h]; exact h, fun h => by rw [doc_code h]; exact h⟩
def endDB (b : Blo) (q : List UInt8 × Int) : Blo × (List UInt8 × Int) := if q.2 ≠ 0 then (zeroB, q) else if checkV b ≠ 0 then (zeroB, failS (checkV b) q) else (b, q)
def takeDB (p : List UInt8 × Int) : Blo × (List UInt8 × Int) := endDB (docB p) (sTx p)
theorem end_both {b1 b2 : Blo} {q : List UInt8 × Int} (hs : invS q) (hc : checkV b1 = 0 ↔ checkV b2 = 0) (he : checkV b1 = 0 -> b1 = b2) :
 (endDB b1 q).1 = (if (failS (checkV b2) q).2 ≠ 0 then (zeroB, failS (checkV b2) q) else (b2, failS (checkV b2) q)).1 /\ eqvS (endDB b1 q).2 (if (failS (checkV b2) q).2 ≠ 0 then (zeroB, failS (checkV b2) q) else (b2, failS (checkV b2) q)).2 /\ invS (endDB b1 q).2 := by
 unfold endDB
 by_cases h1 : q.2 ≠ 0
 ·have e : failS (checkV b2) q = q := by unfold L3.failS; rw [if_pos (.inl h1)]
  rw [if_pos h1, e, if_pos h1]
  exact ⟨rfl, ⟨rfl, Iff.rfl⟩, hs⟩
 ·rw [if_neg h1]
  by_cases h2 : checkV b1 ≠ 0
  ·have h3 : checkV b2 ≠ 0 := fun h => h2 (hc.2 h)
   have d1 := qc3 hs h2
   have d2 := qc3 hs h3
   rw [if_pos h2, if_pos d2.1]
   exact ⟨rfl, qjc d1 d2, d1.inv⟩
  ·have h4 : checkV b1 = 0 := Decidable.not_not.1 h2
   have h3 := hc.1 h4
   have e : failS (checkV b2) q = q := by unfold L3.failS; rw [if_pos (.inr h3)]
   rw [if_neg h2, e, if_neg h1]
   exact ⟨he h4, ⟨rfl, Iff.rfl⟩, hs⟩
theorem qkM (p : List UInt8 × Int) : takeB p = if (failS (checkV (readB p).1) (sTx p)).2 ≠ 0 then (zeroB, failS (checkV (readB p).1) (sTx p)) else ((readB p).1, failS (checkV (readB p).1) (sTx p)) := by
 have hst : (readB p).2 = sTx p := by rw [qgA]
 unfold takeB
 rw [hst]
theorem qmM {p : List UInt8 × Int} (hi : invS p) : (takeDB p).1 = (takeB p).1 /\ eqvS (takeDB p).2 (takeB p).2 /\ invS (takeDB p).2 := by
 rw [qkM]
 exact end_both (sTx_inv hi) (qjY p) qjb
theorem done_eqv {p q : List UInt8 × Int} (h : eqvS p q) : doneV p = 0 ↔ doneV q = 0 := by
 obtain ⟨h1, h2⟩ := h
 unfold L3.doneV
 by_cases h3 : p.2 = 0
 ·have h4 := h2.1 h3
  rw [h1, if_neg (show ¬ (p.2 ≠ 0) from fun h => h h3), if_neg (show ¬ (q.2 ≠ 0) from fun h => h h4)]
 ·rw [if_pos h3, if_pos (fun h => h3 (h2.2 h))]
  exact h2
theorem endP_eqv {z y : Blo × (List UInt8 × Int)} (h1 : z.1 = y.1) (h2 : eqvS z.2 y.2) : (endP z).1 = (endP y).1 /\ ((endP z).2 = 0 ↔ (endP y).2 = 0) := by
 have hd := done_eqv h2
 unfold endP
 by_cases h4 : doneV z.2 = 0
 ·have h5 := hd.1 h4
  rw [if_neg (show ¬ (doneV z.2 ≠ 0) from fun h => h h4), if_neg (show ¬ (doneV y.2 ≠ 0) from fun h => h h5)]
  exact ⟨h1, Iff.rfl⟩
 ·have h5 : doneV y.2 ≠ 0 := fun h => h4 (hd.2 h)
  rw [if_pos h4, if_pos h5]
  exact ⟨rfl, fun h => absurd h h4, fun h => absurd h h5⟩
theorem qme (s : List UInt8) : (endP (takeDB (s, 0))).1 = (parseB s).1 /\ ((endP (takeDB (s, 0))).2 = 0 ↔ (parseB s).2 = 0) := by
 have hi : invS (s, 0) := fun h => absurd rfl h
 obtain ⟨h1, h2, h3⟩ := qmM hi
 exact endP_eqv h1 h2
