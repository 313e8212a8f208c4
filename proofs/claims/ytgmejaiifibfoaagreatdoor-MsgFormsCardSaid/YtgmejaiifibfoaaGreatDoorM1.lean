/-
  Texts of one layer in one: Mes, Part.
-/
import Derived.Test.YtgmejaiifibfoaaGreatDoorB1
import Derived.Test.YtgmejaiifibfoaaGreatDoorL4
import Derived.Test.YtgmejaiifibfoaaGreatDoorB2

/-
  Messages, plainly: which may be, their bytes; what is read of bytes; both ways.
-/
set_option linter.unusedSimpArgs false
set_option linter.unusedVariables false
namespace Go.Proofs.YtgmejaiifibfoaaGreatDoor
open Go.RowKit Go.Lib
open L3 (encN rdN numS mostV mostS failS doneV)
open L11 (Crt zeroC takeC mayV bytesV okW)

/-- A message. -/
structure Mes where
  kind : Int
  signer : Int
  view : Int
  n : Int
  set : Nat
  cert : Crt
  tm : Tmo
  proof : List Tmo
  block : Blo
  tx : Txx
deriving DecidableEq, Inhabited
def zeroM : Mes := ⟨0, 0, 0, 0, 0, zeroC, zeroT, [], zeroB, zeroX⟩
/-- The kinds by what they have: a block, a certificate, two numbers. -/
def hasB (k : Int) : Prop := k = 1 ∨ k = 9
def hasC (k : Int) : Prop := k = 2 ∨ k = 5 ∨ k = 10
def hasV (k : Int) : Prop := k = 6 ∨ k = 12
instance (k : Int) : Decidable (hasB k) := by unfold hasB; infer_instance
instance (k : Int) : Decidable (hasC k) := by unfold hasC; infer_instance
instance (k : Int) : Decidable (hasV k) := by unfold hasV; infer_instance
/-- What its kind names, alone. -/
def onlyM (m : Mes) : Mes :=
  if hasB m.kind then { zeroM with kind := m.kind, block := m.block }
  else if hasC m.kind then { zeroM with kind := m.kind, cert := m.cert }
  else if m.kind = 3 then { zeroM with kind := m.kind, tm := m.tm }
  else if m.kind = 4 then { zeroM with kind := m.kind, proof := m.proof }
  else if hasV m.kind then { zeroM with kind := m.kind, signer := m.signer, view := m.view }
  else if m.kind = 7 then { zeroM with kind := m.kind, view := m.view, set := m.set }
  else if m.kind = 8 then { zeroM with kind := m.kind, signer := m.signer, n := m.n }
  else if m.kind = 11 then { zeroM with kind := m.kind, tx := m.tx }
  else { zeroM with kind := m.kind }
/-- May the certificate of a vote, of what is done, of what is highest be one? -/
def votC (c : Crt) : Bool := mayV c && (!decide (c.kind = 0) && (decide (c.co = 0) && decide (L4.cnt c.sg = 1)))
def donC (c : Crt) : Bool := mayV c && (decide (c.kind = 2) && (decide (c.height = 3) && decide (c.co = 0)))
def higC (c : Crt) : Bool := mayV c && (decide (c.kind = 1) || (decide (c.kind = 2) && !decide (c.co = 0)))
def cerC (k : Int) (c : Crt) : Bool := if k = 2 then votC c else if k = 5 then donC c else higC c
/-- May these be the timeouts of a proof? -/
def prfV (l : List Tmo) : Bool := decide (1 ≤ l.length ∧ l.length ≤ 10) && risesV (l[0]!).view l
/-- May what its kind names be so? -/
def okM (m : Mes) : Bool :=
  if hasB m.kind then decide (checkV m.block = 0)
  else if hasC m.kind then cerC m.kind m.cert
  else if m.kind = 3 then tmoV m.tm
  else if m.kind = 4 then prfV m.proof
  else if hasV m.kind then okW m.signer 0 9 && okW m.view 1 1048576
  else if m.kind = 7 then okW m.view 1 1048576 && decide (1 ≤ m.set ∧ m.set ≤ 1023)
  else if m.kind = 8 then okW m.signer 0 9 && okW m.n 1 2147483647
  else if m.kind = 11 then right m.tx
  else false
/-- May it be one? -/
def mayM (m : Mes) : Bool := okM m && decide (m = onlyM m)
/-- What stands behind the kind. -/
def bodyM (m : Mes) : List UInt8 :=
  if hasB m.kind then bytesB m.block
  else if hasC m.kind then bytesV m.cert
  else if m.kind = 3 then encN m.tm.signer.toNat ++ (encN m.tm.view.toNat ++ bytesV m.tm.high)
  else if m.kind = 4 then encN (m.proof[0]!).view.toNat ++ listB tmB m.proof
  else if hasV m.kind then encN m.signer.toNat ++ encN m.view.toNat
  else if m.kind = 7 then encN m.view.toNat ++ encN m.set
  else if m.kind = 8 then encN m.signer.toNat ++ encN m.n.toNat
  else if m.kind = 11 then bytesT m.tx
  else []
/-- A message's bytes. -/
def bytesM (m : Mes) : List UInt8 := encN m.kind.toNat ++ bodyM m

theorem cer_may {k : Int} {c : Crt} (h : cerC k c = true) : mayV c = true := by
  unfold cerC votC donC higC at h
  split at h
  · simp only [Bool.and_eq_true] at h; exact h.1
  · split at h <;> (simp only [Bool.and_eq_true] at h; exact h.1)
theorem may_facts {m : Mes} (h : mayM m = true) : okM m = true ∧ m = onlyM m := by
  unfold mayM at h
  simp only [Bool.and_eq_true, decide_eq_true_eq] at h
  exact h
/-- Which kinds there are. -/
theorem ok_kind {m : Mes} (h : okM m = true) : 1 ≤ m.kind ∧ m.kind ≤ 12 := by
  unfold okM at h
  by_cases c1 : hasB m.kind
  · unfold hasB at c1; omega
  by_cases c2 : hasC m.kind
  · unfold hasC at c2; omega
  by_cases c5 : hasV m.kind
  · unfold hasV at c5; omega
  rw [if_neg c1, if_neg c2] at h
  by_cases c3 : m.kind = 3
  · omega
  by_cases c4 : m.kind = 4
  · omega
  rw [if_neg c3, if_neg c4, if_neg c5] at h
  by_cases c6 : m.kind = 7
  · omega
  by_cases c7 : m.kind = 8
  · omega
  by_cases c8 : m.kind = 11
  · omega
  rw [if_neg c6, if_neg c7, if_neg c8] at h
  cases h
theorem prf_facts {l : List Tmo} (h : prfV l = true) : 1 ≤ l.length ∧ l.length ≤ 10 ∧ ∀ t ∈ l, tmoV t = true ∧ t.view = (l[0]!).view := by
  unfold prfV at h
  simp only [Bool.and_eq_true, decide_eq_true_eq] at h
  refine ⟨h.1.1, h.1.2, fun t ht => ?_⟩
  obtain ⟨k, hk, rfl⟩ := List.getElem_of_mem ht
  have := rises_at h.2 hk
  unfold riseAt at this
  rw [bang_at hk] at this
  simp only [Bool.and_eq_true, decide_eq_true_eq] at this
  exact this.1

/-! What a reader tells. -/
/-- A number, cut where no message has it; as a set. -/
def fitM (n : Int) : Int := if 2147483647 < n then -1 else n
def fitMU (n : Int) : Nat := if 2147483647 < n then 4294967295 else n.toNat
theorem fitM_in {n : Int} (h : 0 ≤ n) : inI (fitM n) := by unfold fitM inI; split <;> omega
theorem fitM_small {n : Int} (h : n ≤ 2147483647) : fitM n = n := by unfold fitM; rw [if_neg (by omega)]
theorem fitM_back {n : Int} (h : 0 ≤ fitM n) : fitM n = n := by unfold fitM at h ⊢; split at h <;> (first | omega | rfl)
theorem fitMU_small {n : Int} (h : n ≤ 2147483647) : fitMU n = n.toNat := by unfold fitMU; rw [if_neg (by omega)]
theorem fitMU_back {n : Int} (h : fitMU n ≤ 1023) : fitMU n = n.toNat := by
  unfold fitMU at h ⊢
  by_cases c : 2147483647 < n
  · rw [if_pos c] at h; omega
  · rw [if_neg c]
/-- The next timeout of a proof. -/
def oneM (v : Int) (p : List UInt8 × Int) : Tmo × (List UInt8 × Int) := (⟨fitM (numV p), v, (takeC (numS p)).1⟩, (takeC (numS p)).2)
/-- What stands behind the kind, read. -/
def restM (k : Int) (p : List UInt8 × Int) : Mes × (List UInt8 × Int) :=
  if hasB k then ({ zeroM with kind := k, block := (takeB p).1 }, (takeB p).2)
  else if hasC k then ({ zeroM with kind := k, cert := (takeC p).1 }, (takeC p).2)
  else if k = 3 then ({ zeroM with kind := k, tm := ⟨fitM (numV p), fitM (numV (numS p)), (takeC (numS (numS p))).1⟩ }, (takeC (numS (numS p))).2)
  else if k = 4 then ({ zeroM with kind := k, proof := listG (oneM (fitM (numV p))) (mostV 10 (numS p)).toNat (mostS 10 (numS p)) }, itG (oneM (fitM (numV p))) (mostV 10 (numS p)).toNat (mostS 10 (numS p)))
  else if hasV k then ({ zeroM with kind := k, signer := fitM (numV p), view := fitM (numV (numS p)) }, numS (numS p))
  else if k = 7 then ({ zeroM with kind := k, view := fitM (numV p), set := fitMU (numV (numS p)) }, numS (numS p))
  else if k = 8 then ({ zeroM with kind := k, signer := fitM (numV p), n := fitM (numV (numS p)) }, numS (numS p))
  else if k = 11 then ({ zeroM with kind := k, tx := (takeT p).1 }, (takeT p).2)
  else ({ zeroM with kind := k }, failS 140 p)
theorem oneM_back (v : Int) (t : Tmo) (h : tmoV t = true) (hv : t.view = v) (r : List UInt8) : oneM v (tmB t ++ r, 0) = (t, (r, 0)) := by
  obtain ⟨h1, h2, h3, h4⟩ := tmo_facts h
  have e : tmB t ++ r = encN t.signer.toNat ++ (bytesV t.high ++ r) := by unfold tmB; rw [List.append_assoc]
  obtain ⟨n1, n2⟩ := num_back t.signer.toNat (bytesV t.high ++ r) (by omega)
  have hc := L11.take_bytes t.high r h4
  unfold oneM
  rw [e, n1, n2, hc, Int.toNat_of_nonneg h1.1, fitM_small (by omega), ← hv]
theorem oneM_canon (v : Int) (q : List UInt8 × Int) (h : (oneM v q).2.2 = 0) (hs : 0 ≤ (oneM v q).1.signer) : q.2 = 0 ∧ q.1 = tmB (oneM v q).1 ++ (oneM v q).2.1 := by
  unfold oneM at h hs ⊢
  dsimp only at h hs ⊢
  obtain ⟨k1, k2, k3⟩ := takeC_canon h
  obtain ⟨n1, n2, n3, n4⟩ := num_canon k1
  refine ⟨n1, ?_⟩
  unfold tmB
  dsimp only
  rw [fitM_back hs, List.append_assoc, ← k3]
  exact n2
theorem itM_canon (v : Int) (s : List UInt8 × Int) (N : Nat) (hs : ∀ t ∈ listG (oneM v) N s, 0 ≤ t.signer) : ∀ n, n ≤ N → (itG (oneM v) n s).2 = 0 → s.2 = 0 ∧ s.1 = ((listG (oneM v) n s).map tmB).flatten ++ (itG (oneM v) n s).1 := by
  intro n
  induction n with
  | zero => intro _ h; exact ⟨h, by simp [listG, itG]⟩
  | succ n ih =>
    intro hn h
    have hm : (oneM v (itG (oneM v) n s)).1 ∈ listG (oneM v) N s := by
      unfold listG
      exact List.mem_map.2 ⟨n, List.mem_range.2 hn, rfl⟩
    obtain ⟨c1, c2⟩ := oneM_canon _ _ h (hs _ hm)
    obtain ⟨c3, c4⟩ := ih (Nat.le_of_succ_le hn) c1
    refine ⟨c3, ?_⟩
    rw [listG_snoc, List.map_append, List.flatten_append, List.append_assoc, List.map_singleton, List.flatten_singleton]
    show _ = _ ++ (_ ++ (oneM v (itG (oneM v) n s)).2.1)
    rw [← c2]
    exact c4
theorem most_back (m n : Nat) (l : List UInt8) (h : n ≤ m) (hm : m ≤ 4611686018427387904) : mostV m (encN n ++ l, 0) = n ∧ mostS m (encN n ++ l, 0) = (l, 0) := by
  obtain ⟨v, s⟩ := num_back n l (by omega)
  have : ((rdN 0 0 (encN n ++ l)).1 : Int) = n := v
  unfold L3.mostV L3.mostS
  dsimp only
  rw [this, if_neg (by omega), if_neg (by omega)]
  exact ⟨rfl, s⟩
/-- What stands behind the kind comes back. -/
theorem rest_back (m : Mes) (r : List UInt8) (h : mayM m = true) : restM m.kind (bodyM m ++ r, 0) = (m, (r, 0)) := by
  obtain ⟨hk, ho⟩ := may_facts h
  clear h
  unfold okM at hk
  unfold onlyM at ho
  unfold restM bodyM
  by_cases c1 : hasB m.kind
  · rw [if_pos c1] at hk ho ⊢
    rw [if_pos c1, takeB_back m.block r (of_decide_eq_true hk)]
    exact Prod.ext ho.symm rfl
  rw [if_neg c1] at hk ho ⊢
  rw [if_neg c1]
  by_cases c2 : hasC m.kind
  · rw [if_pos c2] at hk ho ⊢
    rw [if_pos c2, L11.take_bytes m.cert r (cer_may hk)]
    exact Prod.ext ho.symm rfl
  rw [if_neg c2] at hk ho ⊢
  rw [if_neg c2]
  by_cases c3 : m.kind = 3
  · rw [if_pos c3] at hk ho ⊢
    rw [if_pos c3]
    obtain ⟨h1, h2, h3, h4⟩ := tmo_facts hk
    obtain ⟨n1, s1⟩ := num_back m.tm.signer.toNat (encN m.tm.view.toNat ++ (bytesV m.tm.high ++ r)) (by omega)
    obtain ⟨n2, s2⟩ := num_back m.tm.view.toNat (bytesV m.tm.high ++ r) (by omega)
    have hc := L11.take_bytes m.tm.high r h4
    simp only [List.append_assoc]
    rw [n1, s1, n2, s2, hc, Int.toNat_of_nonneg (by omega), Int.toNat_of_nonneg (by omega), fitM_small (by omega), fitM_small (by omega)]
    exact Prod.ext ho.symm rfl
  rw [if_neg c3] at hk ho ⊢
  rw [if_neg c3]
  by_cases c4 : m.kind = 4
  · rw [if_pos c4] at hk ho ⊢
    rw [if_pos c4]
    obtain ⟨h1, h2, h3⟩ := prf_facts hk
    have hv : 1 ≤ (m.proof[0]!).view ∧ (m.proof[0]!).view ≤ 1048576 := by
      have := (tmo_facts (h3 (m.proof[0]!) (by rw [bang_at (show 0 < m.proof.length by omega)]; exact List.getElem_mem _)).1).2.1
      exact this
    obtain ⟨v, hv0⟩ : ∃ v, v = (m.proof[0]!).view := ⟨_, rfl⟩
    rw [← hv0] at h3 hv ⊢
    obtain ⟨l2, e2⟩ : ∃ l, l = (m.proof.map tmB).flatten ++ r := ⟨_, rfl⟩
    obtain ⟨l1, e1⟩ : ∃ l, l = encN m.proof.length ++ l2 := ⟨_, rfl⟩
    have e : (encN v.toNat ++ listB tmB m.proof) ++ r = encN v.toNat ++ l1 := by rw [e1, e2]; unfold listB; simp
    obtain ⟨n1, s1⟩ := num_back v.toNat l1 (by omega)
    obtain ⟨m1, m2⟩ := most_back 10 m.proof.length l2 h2 (by omega)
    obtain ⟨i1, i2⟩ := itG_back_all (oneM v) tmB m.proof r (fun t ht r => oneM_back v t (h3 t ht).1 (h3 t ht).2 r)
    rw [← e2] at i1 i2
    rw [← e1] at m1 m2
    rw [e, n1, s1, Int.toNat_of_nonneg (by omega), fitM_small (by omega)]
    rw [show mostV 10 (l1, 0) = m.proof.length from m1, show mostS 10 (l1, 0) = (l2, 0) from m2, Int.toNat_natCast, i1, i2]
    exact Prod.ext ho.symm rfl
  rw [if_neg c4] at hk ho ⊢
  rw [if_neg c4]
  by_cases c5 : hasV m.kind
  · rw [if_pos c5] at hk ho ⊢
    rw [if_pos c5]
    simp only [Bool.and_eq_true] at hk
    have h1 := okW_in hk.1
    have h2 := okW_in hk.2
    obtain ⟨n1, s1⟩ := num_back m.signer.toNat (encN m.view.toNat ++ r) (by omega)
    obtain ⟨n2, s2⟩ := num_back m.view.toNat r (by omega)
    rw [List.append_assoc, n1, s1, n2, s2, Int.toNat_of_nonneg (by omega), Int.toNat_of_nonneg (by omega), fitM_small (by omega), fitM_small (by omega)]
    exact Prod.ext ho.symm rfl
  rw [if_neg c5] at hk ho ⊢
  rw [if_neg c5]
  by_cases c6 : m.kind = 7
  · rw [if_pos c6] at hk ho ⊢
    rw [if_pos c6]
    simp only [Bool.and_eq_true, decide_eq_true_eq] at hk
    have h1 := okW_in hk.1
    obtain ⟨n1, s1⟩ := num_back m.view.toNat (encN m.set ++ r) (by omega)
    obtain ⟨n2, s2⟩ := num_back m.set r (by omega)
    rw [List.append_assoc, n1, s1, n2, s2, Int.toNat_of_nonneg (by omega), fitM_small (by omega), fitMU_small (by omega), Int.toNat_natCast]
    exact Prod.ext ho.symm rfl
  rw [if_neg c6] at hk ho ⊢
  rw [if_neg c6]
  by_cases c7 : m.kind = 8
  · rw [if_pos c7] at hk ho ⊢
    rw [if_pos c7]
    simp only [Bool.and_eq_true] at hk
    have h1 := okW_in hk.1
    have h2 := okW_in hk.2
    obtain ⟨n1, s1⟩ := num_back m.signer.toNat (encN m.n.toNat ++ r) (by omega)
    obtain ⟨n2, s2⟩ := num_back m.n.toNat r (by omega)
    rw [List.append_assoc, n1, s1, n2, s2, Int.toNat_of_nonneg (by omega), Int.toNat_of_nonneg (by omega), fitM_small (by omega), fitM_small (by omega)]
    exact Prod.ext ho.symm rfl
  rw [if_neg c7] at hk ho ⊢
  rw [if_neg c7]
  by_cases c8 : m.kind = 11
  · rw [if_pos c8] at hk ho ⊢
    rw [if_pos c8, take_bytes m.tx r hk]
    exact Prod.ext ho.symm rfl
  · rw [if_neg c8] at hk
    cases hk
theorem rest_kind (k : Int) (p : List UInt8 × Int) : (restM k p).1.kind = k := by
  unfold restM
  repeat' split
  all_goals rfl
theorem rest_only (k : Int) (p : List UInt8 × Int) : (restM k p).1 = onlyM (restM k p).1 := by
  unfold onlyM
  rw [rest_kind]
  unfold restM
  by_cases c1 : hasB k
  · simp only [if_pos c1]
  simp only [if_neg c1]
  by_cases c2 : hasC k
  · simp only [if_pos c2]
  simp only [if_neg c2]
  by_cases c3 : k = 3
  · simp only [if_pos c3]
  simp only [if_neg c3]
  by_cases c4 : k = 4
  · simp only [if_pos c4]
  simp only [if_neg c4]
  by_cases c5 : hasV k
  · simp only [if_pos c5]
  simp only [if_neg c5]
  by_cases c6 : k = 7
  · simp only [if_pos c6]
  simp only [if_neg c6]
  by_cases c7 : k = 8
  · simp only [if_pos c7]
  simp only [if_neg c7]
  by_cases c8 : k = 11
  · simp only [if_pos c8]
  · simp only [if_neg c8]
theorem two_canon {p : List UInt8 × Int} (h : (numS (numS p)).2 = 0) : p.2 = 0 ∧ p.1 = (encN (numV p).toNat ++ encN (numV (numS p)).toNat) ++ (numS (numS p)).1 ∧ 0 ≤ numV p ∧ 0 ≤ numV (numS p) := by
  have n2 := num_canon h
  have n1 := num_canon n2.1
  refine ⟨n1.1, ?_, n1.2.2.1, n2.2.2.1⟩
  rw [List.append_assoc, ← n2.2.1]
  exact n1.2.1
/-- What is read of what may be was written so. -/
theorem rest_canon (k : Int) (p : List UInt8 × Int) (h : (restM k p).2.2 = 0) (hm : okM (restM k p).1 = true) : p.2 = 0 ∧ p.1 = bodyM (restM k p).1 ++ (restM k p).2.1 := by
  unfold okM at hm
  unfold bodyM
  rw [rest_kind] at hm ⊢
  unfold restM at h hm ⊢
  by_cases c1 : hasB k
  · simp only [if_pos c1] at h hm ⊢
    exact ⟨(takeB_canon h).1, (takeB_canon h).2.2⟩
  simp only [if_neg c1] at h hm ⊢
  by_cases c2 : hasC k
  · simp only [if_pos c2] at h hm ⊢
    exact ⟨(takeC_canon h).1, (takeC_canon h).2.2⟩
  simp only [if_neg c2] at h hm ⊢
  by_cases c3 : k = 3
  · simp only [if_pos c3] at h hm ⊢
    have k1 := takeC_canon h
    have k2 := two_canon k1.1
    obtain ⟨t1, t2, _, _⟩ := tmo_facts hm
    dsimp only at t1 t2
    refine ⟨k2.1, ?_⟩
    rw [k2.2.1, fitM_back t1.1, fitM_back (by omega)]
    simp only [List.append_assoc]
    rw [← k1.2.2]
  simp only [if_neg c3] at h hm ⊢
  by_cases c4 : k = 4
  · simp only [if_pos c4] at h hm ⊢
    obtain ⟨h1, h2, h3⟩ := prf_facts hm
    obtain ⟨v, hv⟩ : ∃ v, v = fitM (numV p) := ⟨_, rfl⟩
    obtain ⟨q, hq⟩ : ∃ q, q = numS p := ⟨_, rfl⟩
    rw [← hv, ← hq] at h h1 h2 h3 ⊢
    obtain ⟨n, hn⟩ : ∃ n, n = (mostV 10 q).toNat := ⟨_, rfl⟩
    obtain ⟨s, hs⟩ : ∃ s, s = mostS 10 q := ⟨_, rfl⟩
    rw [← hn, ← hs] at h h1 h2 h3 ⊢
    have k1 := itM_canon v s n (fun t ht => (tmo_facts (h3 t ht).1).1.1) n (Nat.le_refl _) h
    have k2 := most_canon (m := 10) (p := q) (by rw [← hs]; exact k1.1)
    have k3 := num_canon k2.1
    have k4 := num_canon (p := p) (by rw [← hq]; exact k3.1)
    have lL := listG_len (oneM v) n s
    have h0 : 0 < (listG (oneM v) n s).length := by omega
    have hv0 : ((listG (oneM v) n s)[0]!).view = v := by
      rw [bang_at h0]
      simp only [listG, List.getElem_map]
      rfl
    have hv1 : 0 ≤ v := by
      have := (tmo_facts (h3 ((listG (oneM v) n s)[0]!) (by rw [bang_at h0]; exact List.getElem_mem _)).1).2.1
      rw [hv0] at this
      omega
    refine ⟨k4.1, ?_⟩
    rw [hv0]
    unfold listB
    rw [lL]
    simp only [List.append_assoc]
    have e1 : s.1 = ((listG (oneM v) n s).map tmB).flatten ++ (itG (oneM v) n s).1 := k1.2
    rw [← e1]
    have e2 : q.1 = encN n ++ s.1 := by rw [hn, k2.2.1, hs, k2.2.2.1]; exact k3.2.1
    rw [← e2, hq]
    rw [hv] at hv1 ⊢
    rw [fitM_back hv1]
    exact k4.2.1
  simp only [if_neg c4] at h hm ⊢
  by_cases c5 : hasV k
  · simp only [if_pos c5] at h hm ⊢
    simp only [Bool.and_eq_true] at hm
    have h1 := okW_in hm.1
    have h2 := okW_in hm.2
    have k2 := two_canon h
    rw [fitM_back h1.1, fitM_back (by omega)]
    exact ⟨k2.1, k2.2.1⟩
  simp only [if_neg c5] at h hm ⊢
  by_cases c6 : k = 7
  · simp only [if_pos c6] at h hm ⊢
    simp only [Bool.and_eq_true, decide_eq_true_eq] at hm
    have h1 := okW_in hm.1
    have k2 := two_canon h
    rw [fitM_back (by omega), fitMU_back hm.2.2]
    exact ⟨k2.1, k2.2.1⟩
  simp only [if_neg c6] at h hm ⊢
  by_cases c7 : k = 8
  · simp only [if_pos c7] at h hm ⊢
    simp only [Bool.and_eq_true] at hm
    have h1 := okW_in hm.1
    have h2 := okW_in hm.2
    have k2 := two_canon h
    rw [fitM_back h1.1, fitM_back (by omega)]
    exact ⟨k2.1, k2.2.1⟩
  simp only [if_neg c7] at h hm ⊢
  by_cases c8 : k = 11
  · simp only [if_pos c8] at h hm ⊢
    exact ⟨(takeT_canon h).1, (takeT_canon h).2.2⟩
  · simp only [if_neg c8] at hm
    cases hm
/-! Whole messages. -/
/-- What a reader tells of a message, and leaves. -/
def readM (p : List UInt8 × Int) : Mes × (List UInt8 × Int) := restM (fitM (numV p)) (numS p)
def endM (z : Mes × (List UInt8 × Int)) : Mes × Int := if doneV z.2 ≠ 0 then (zeroM, doneV z.2) else if mayM z.1 = false then (zeroM, 140) else (z.1, 0)
/-- The message of all bytes; the error. -/
def parseM (s : List UInt8) : Mes × Int := if 65536 < s.length then (zeroM, 2) else endM (readM (s, 0))
theorem readM_back (m : Mes) (r : List UInt8) (h : mayM m = true) : readM (bytesM m ++ r, 0) = (m, (r, 0)) := by
  have hk := ok_kind (may_facts h).1
  obtain ⟨n1, s1⟩ := num_back m.kind.toNat (bodyM m ++ r) (by omega)
  unfold readM bytesM
  rw [List.append_assoc, n1, s1, Int.toNat_of_nonneg (by omega), fitM_small (by omega), rest_back m r h]
theorem readM_canon {p : List UInt8 × Int} (h : (readM p).2.2 = 0) (hm : mayM (readM p).1 = true) : p.2 = 0 ∧ p.1 = bytesM (readM p).1 ++ (readM p).2.1 := by
  unfold readM at h hm ⊢
  have hk := ok_kind (may_facts hm).1
  rw [rest_kind] at hk
  have k2 := rest_canon _ _ h (may_facts hm).1
  have k1 := num_canon k2.1
  refine ⟨k1.1, ?_⟩
  unfold bytesM
  rw [rest_kind, List.append_assoc, ← k2.2, fitM_back (by omega)]
  exact k1.2.1
theorem flat_le (n : Nat) : ∀ L : List Tmo, (∀ t ∈ L, tmoV t = true) → L.length ≤ n → ((L.map tmB).flatten).length ≤ n * 81 := fun L h hl => by
  have := flat_len_le tmB 81 L fun t ht => tmB_len (h t ht)
  have := Nat.mul_le_mul_right 81 hl
  omega
/-- No message that may be is too long. -/
theorem bytesM_len {m : Mes} (h : mayM m = true) : (bytesM m).length ≤ 6000 := by
  have hk := may_facts h
  have hkk := ok_kind hk.1
  have a0 := encN9 (n := m.kind.toNat) (by omega)
  have hb : (bodyM m).length ≤ 5100 := by
    have hok := hk.1
    clear hk h a0
    unfold okM at hok
    unfold bodyM
    by_cases c1 : hasB m.kind
    · simp only [if_pos c1] at hok ⊢
      have := bytesB_len (b := m.block) (of_decide_eq_true hok)
      omega
    simp only [if_neg c1] at hok ⊢
    by_cases c2 : hasC m.kind
    · simp only [if_pos c2] at hok ⊢
      have := L11.bytes_len (cer_may hok)
      omega
    simp only [if_neg c2] at hok ⊢
    by_cases c3 : m.kind = 3
    · simp only [if_pos c3] at hok ⊢
      obtain ⟨h1, h2, h3, h4⟩ := tmo_facts hok
      have a1 := encN9 (n := m.tm.signer.toNat) (by omega)
      have a2 := encN9 (n := m.tm.view.toNat) (by omega)
      have a3 := L11.bytes_len h4
      rw [List.length_append, List.length_append]
      omega
    simp only [if_neg c3] at hok ⊢
    by_cases c4 : m.kind = 4
    · simp only [if_pos c4] at hok ⊢
      obtain ⟨h1, h2, h3⟩ := prf_facts hok
      have hv := (tmo_facts (h3 (m.proof[0]!) (by rw [bang_at (show 0 < m.proof.length by omega)]; exact List.getElem_mem _)).1).2.1
      have a1 := encN9 (n := (m.proof[0]!).view.toNat) (by omega)
      have a2 := encN9 (n := m.proof.length) (by omega)
      have a3 := flat_le 10 m.proof (fun t ht => (h3 t ht).1) h2
      unfold listB
      rw [List.length_append, List.length_append]
      omega
    simp only [if_neg c4] at hok ⊢
    by_cases c5 : hasV m.kind
    · simp only [if_pos c5] at hok ⊢
      simp only [Bool.and_eq_true] at hok
      have h1 := okW_in hok.1
      have h2 := okW_in hok.2
      have a1 := encN9 (n := m.signer.toNat) (by omega)
      have a2 := encN9 (n := m.view.toNat) (by omega)
      rw [List.length_append]
      omega
    simp only [if_neg c5] at hok ⊢
    by_cases c6 : m.kind = 7
    · simp only [if_pos c6] at hok ⊢
      simp only [Bool.and_eq_true, decide_eq_true_eq] at hok
      have h1 := okW_in hok.1
      have a1 := encN9 (n := m.view.toNat) (by omega)
      have a2 := encN9 (n := m.set) (by omega)
      rw [List.length_append]
      omega
    simp only [if_neg c6] at hok ⊢
    by_cases c7 : m.kind = 8
    · simp only [if_pos c7] at hok ⊢
      simp only [Bool.and_eq_true] at hok
      have h1 := okW_in hok.1
      have h2 := okW_in hok.2
      have a1 := encN9 (n := m.signer.toNat) (by omega)
      have a2 := encN9 (n := m.n.toNat) (by omega)
      rw [List.length_append]
      omega
    simp only [if_neg c7] at hok ⊢
    by_cases c8 : m.kind = 11
    · simp only [if_pos c8] at hok ⊢
      have := bytesT_len hok
      omega
    · simp only [if_neg c8] at hok
      cases hok
  unfold bytesM
  rw [List.length_append]
  omega
theorem parseM_back (m : Mes) (h : mayM m = true) : parseM (bytesM m) = (m, 0) := by
  have hb := readM_back m [] h
  rw [List.append_nil] at hb
  have hl := bytesM_len h
  unfold parseM
  rw [if_neg (by omega), hb]
  unfold endM
  have : doneV (([] : List UInt8), (0 : Int)) = 0 := rfl
  dsimp only
  rw [this, if_neg (fun h => h rfl), if_neg (by rw [h]; simp)]
theorem endM_zero {z : Mes × (List UInt8 × Int)} (h : (endM z).2 = 0) : doneV z.2 = 0 ∧ mayM z.1 = true ∧ endM z = (z.1, 0) := by
  unfold endM at h ⊢
  by_cases hd : doneV z.2 ≠ 0
  · rw [if_pos hd] at h; exact absurd h hd
  rw [if_neg hd] at h ⊢
  by_cases hm : mayM z.1 = false
  · rw [if_pos hm] at h; cases h
  · rw [if_neg hm]; exact ⟨Decidable.not_not.1 hd, by simpa using hm, rfl⟩
theorem parseM_canon {s : List UInt8} (h : (parseM s).2 = 0) : mayM (parseM s).1 = true ∧ bytesM (parseM s).1 = s := by
  unfold parseM at h ⊢
  by_cases hl : 65536 < s.length
  · rw [if_pos hl] at h; cases h
  rw [if_neg hl] at h ⊢
  obtain ⟨h1, h3, h2⟩ := endM_zero h
  obtain ⟨d1, d2⟩ := doneV_zero h1
  obtain ⟨c1, c3⟩ := readM_canon d1 h3
  rw [d2, List.append_nil] at c3
  rw [h2]
  exact ⟨h3, c3.symm⟩
theorem parseM_no {s : List UInt8} (h : (parseM s).2 ≠ 0) : (parseM s).1 = zeroM := by
  unfold parseM endM at h ⊢
  by_cases hl : 65536 < s.length
  · rw [if_pos hl]
  rw [if_neg hl] at h ⊢
  by_cases hd : doneV (readM (s, 0)).2 ≠ 0
  · rw [if_pos hd]
  rw [if_neg hd] at h ⊢
  by_cases hm : mayM (readM (s, 0)).1 = false
  · rw [if_pos hm]
  · rw [if_neg hm] at h; exact absurd rfl h
/-- The first byte is the kind. -/
theorem bytesM_first {m : Mes} (h : mayM m = true) : (bytesM m)[0]? = some (UInt8.ofNat m.kind.toNat) ∧ 0 < (bytesM m).length := by
  have hk := ok_kind (may_facts h).1
  unfold bytesM
  rw [L3.encN_small (by omega)]
  simp
/-- No beginning of a message is one. -/
theorem cutM_no {m : Mes} (h : mayM m = true) {k : Nat} (hk : k < (bytesM m).length) : (parseM ((bytesM m).take k)).2 ≠ 0 := by
  intro h0
  obtain ⟨c1, c2⟩ := parseM_canon h0
  have b1 := readM_back _ ((bytesM m).drop k) c1
  rw [c2, List.take_append_drop] at b1
  have b2 := readM_back m [] h
  rw [List.append_nil, b1] at b2
  have := congrArg (fun z => z.2.1.length) b2
  simp at this
  omega
/-- None goes on behind its end. -/
theorem tailM_iff {m : Mes} (h : mayM m = true) (r : List UInt8) : (parseM (bytesM m ++ r)).2 = 0 ↔ r = [] := by
  constructor
  · intro h0
    unfold parseM at h0
    by_cases hl : 65536 < (bytesM m ++ r).length
    · rw [if_pos hl] at h0; cases h0
    · rw [if_neg hl, readM_back m r h] at h0
      exact (doneV_zero (endM_zero h0).1).2
  · rintro rfl
    rw [List.append_nil, parseM_back m h]
end Go.Proofs.YtgmejaiifibfoaaGreatDoor

/-
  What a message has, by its kind: plainly, and as an interface value.
-/
set_option linter.unusedSimpArgs false
set_option linter.unusedVariables false
set_option maxRecDepth 10000
namespace Go.Proofs.YtgmejaiifibfoaaGreatDoor
open Go.RowKit Go.Maps Go.Lib
open L3 (Blk Reads encN numS mostV mostS failS)
open L11 (Crt zeroC crtL crtC mayV bytesV takeC okW)

/-- What a message has. -/
inductive Pt where
  | blk (b : Blo) | crt (c : Crt) | tmo (t : Tmo) | prf (l : List Tmo) | inv (s v : Int) | ele (v : Int) (s : Nat) | wan (s n : Int) | txx (t : Txx) | non
def partM (m : Mes) : Pt :=
  if hasB m.kind then .blk m.block
  else if hasC m.kind then .crt m.cert
  else if m.kind = 3 then .tmo m.tm
  else if m.kind = 4 then .prf m.proof
  else if hasV m.kind then .inv m.signer m.view
  else if m.kind = 7 then .ele m.view m.set
  else if m.kind = 8 then .wan m.signer m.n
  else if m.kind = 11 then .txx m.tx
  else .non
def madeM (k : Int) : Pt → Mes
  | .blk b => { zeroM with kind := k, block := b }
  | .crt c => { zeroM with kind := k, cert := c }
  | .tmo t => { zeroM with kind := k, tm := t }
  | .prf l => { zeroM with kind := k, proof := l }
  | .inv s v => { zeroM with kind := k, signer := s, view := v }
  | .ele v s => { zeroM with kind := k, view := v, set := s }
  | .wan s n => { zeroM with kind := k, signer := s, n := n }
  | .txx t => { zeroM with kind := k, tx := t }
  | .non => { zeroM with kind := k }
def mayP (k : Int) : Pt → Bool
  | .blk b => decide (checkV b = 0)
  | .crt c => cerC k c
  | .tmo t => tmoV t
  | .prf l => prfV l
  | .inv s v => okW s 0 9 && okW v 1 1048576
  | .ele v s => okW v 1 1048576 && decide (1 ≤ s ∧ s ≤ 1023)
  | .wan s n => okW s 0 9 && okW n 1 2147483647
  | .txx t => right t
  | .non => false
def writP : Pt → List UInt8
  | .blk b => bytesB b
  | .crt c => bytesV c
  | .tmo t => encN t.signer.toNat ++ (encN t.view.toNat ++ bytesV t.high)
  | .prf l => encN (l[0]!).view.toNat ++ listB tmB l
  | .inv s v => encN s.toNat ++ encN v.toNat
  | .ele v s => encN v.toNat ++ encN s
  | .wan s n => encN s.toNat ++ encN n.toNat
  | .txx t => bytesT t
  | .non => []
def readP (k : Int) (p : List UInt8 × Int) : Pt × (List UInt8 × Int) :=
  if hasB k then (.blk (takeB p).1, (takeB p).2)
  else if hasC k then (.crt (takeC p).1, (takeC p).2)
  else if k = 3 then (.tmo ⟨fitM (numV p), fitM (numV (numS p)), (takeC (numS (numS p))).1⟩, (takeC (numS (numS p))).2)
  else if k = 4 then (.prf (listG (oneM (fitM (numV p))) (mostV 10 (numS p)).toNat (mostS 10 (numS p))), itG (oneM (fitM (numV p))) (mostV 10 (numS p)).toNat (mostS 10 (numS p)))
  else if hasV k then (.inv (fitM (numV p)) (fitM (numV (numS p))), numS (numS p))
  else if k = 7 then (.ele (fitM (numV p)) (fitMU (numV (numS p))), numS (numS p))
  else if k = 8 then (.wan (fitM (numV p)) (fitM (numV (numS p))), numS (numS p))
  else if k = 11 then (.txx (takeT p).1, (takeT p).2)
  else (.non, failS 140 p)
/-- Which part stands with a kind. -/
def kindP (k : Int) : Pt → Prop
  | .crt _ => hasC k
  | _ => True
theorem part_kind (m : Mes) : kindP m.kind (partM m) := by
  unfold partM
  by_cases c1 : hasB m.kind
  · rw [if_pos c1]; trivial
  rw [if_neg c1]
  by_cases c2 : hasC m.kind
  · rw [if_pos c2]; exact c2
  rw [if_neg c2]
  repeat' split
  all_goals trivial
theorem only_made (m : Mes) : onlyM m = madeM m.kind (partM m) := by
  unfold onlyM partM
  by_cases c1 : hasB m.kind
  · rw [if_pos c1, if_pos c1]; rfl
  rw [if_neg c1, if_neg c1]
  by_cases c2 : hasC m.kind
  · rw [if_pos c2, if_pos c2]; rfl
  rw [if_neg c2, if_neg c2]
  by_cases c3 : m.kind = 3
  · rw [if_pos c3, if_pos c3]; rfl
  rw [if_neg c3, if_neg c3]
  by_cases c4 : m.kind = 4
  · rw [if_pos c4, if_pos c4]; rfl
  rw [if_neg c4, if_neg c4]
  by_cases c5 : hasV m.kind
  · rw [if_pos c5, if_pos c5]; rfl
  rw [if_neg c5, if_neg c5]
  by_cases c6 : m.kind = 7
  · rw [if_pos c6, if_pos c6]; rfl
  rw [if_neg c6, if_neg c6]
  by_cases c7 : m.kind = 8
  · rw [if_pos c7, if_pos c7]; rfl
  rw [if_neg c7, if_neg c7]
  by_cases c8 : m.kind = 11
  · rw [if_pos c8, if_pos c8]; rfl
  rw [if_neg c8, if_neg c8]; rfl
theorem ok_mayP (m : Mes) : okM m = mayP m.kind (partM m) := by
  unfold okM partM
  by_cases c1 : hasB m.kind
  · rw [if_pos c1, if_pos c1]; rfl
  rw [if_neg c1, if_neg c1]
  by_cases c2 : hasC m.kind
  · rw [if_pos c2, if_pos c2]; rfl
  rw [if_neg c2, if_neg c2]
  by_cases c3 : m.kind = 3
  · rw [if_pos c3, if_pos c3]; rfl
  rw [if_neg c3, if_neg c3]
  by_cases c4 : m.kind = 4
  · rw [if_pos c4, if_pos c4]; rfl
  rw [if_neg c4, if_neg c4]
  by_cases c5 : hasV m.kind
  · rw [if_pos c5, if_pos c5]; rfl
  rw [if_neg c5, if_neg c5]
  by_cases c6 : m.kind = 7
  · rw [if_pos c6, if_pos c6]; rfl
  rw [if_neg c6, if_neg c6]
  by_cases c7 : m.kind = 8
  · rw [if_pos c7, if_pos c7]; rfl
  rw [if_neg c7, if_neg c7]
  by_cases c8 : m.kind = 11
  · rw [if_pos c8, if_pos c8]; rfl
  rw [if_neg c8, if_neg c8]; rfl
theorem body_writ (m : Mes) : bodyM m = writP (partM m) := by
  unfold bodyM partM
  by_cases c1 : hasB m.kind
  · rw [if_pos c1, if_pos c1]; rfl
  rw [if_neg c1, if_neg c1]
  by_cases c2 : hasC m.kind
  · rw [if_pos c2, if_pos c2]; rfl
  rw [if_neg c2, if_neg c2]
  by_cases c3 : m.kind = 3
  · rw [if_pos c3, if_pos c3]; rfl
  rw [if_neg c3, if_neg c3]
  by_cases c4 : m.kind = 4
  · rw [if_pos c4, if_pos c4]; rfl
  rw [if_neg c4, if_neg c4]
  by_cases c5 : hasV m.kind
  · rw [if_pos c5, if_pos c5]; rfl
  rw [if_neg c5, if_neg c5]
  by_cases c6 : m.kind = 7
  · rw [if_pos c6, if_pos c6]; rfl
  rw [if_neg c6, if_neg c6]
  by_cases c7 : m.kind = 8
  · rw [if_pos c7, if_pos c7]; rfl
  rw [if_neg c7, if_neg c7]
  by_cases c8 : m.kind = 11
  · rw [if_pos c8, if_pos c8]; rfl
  rw [if_neg c8, if_neg c8]; rfl
theorem rest_readP (k : Int) (p : List UInt8 × Int) : restM k p = (madeM k (readP k p).1, (readP k p).2) := by
  unfold restM readP
  by_cases c1 : hasB k
  · rw [if_pos c1, if_pos c1]; simp only [madeM]
  rw [if_neg c1, if_neg c1]
  by_cases c2 : hasC k
  · rw [if_pos c2, if_pos c2]; simp only [madeM]
  rw [if_neg c2, if_neg c2]
  by_cases c3 : k = 3
  · rw [if_pos c3, if_pos c3]; simp only [madeM]
  rw [if_neg c3, if_neg c3]
  by_cases c4 : k = 4
  · rw [if_pos c4, if_pos c4]; simp only [madeM]
  rw [if_neg c4, if_neg c4]
  by_cases c5 : hasV k
  · rw [if_pos c5, if_pos c5]; simp only [madeM]
  rw [if_neg c5, if_neg c5]
  by_cases c6 : k = 7
  · rw [if_pos c6, if_pos c6]; simp only [madeM]
  rw [if_neg c6, if_neg c6]
  by_cases c7 : k = 8
  · rw [if_pos c7, if_pos c7]; simp only [madeM]
  rw [if_neg c7, if_neg c7]
  by_cases c8 : k = 11
  · rw [if_pos c8, if_pos c8]; simp only [madeM]
  rw [if_neg c8, if_neg c8]; simp only [madeM]
/-- A message may be one, if its part may, and nothing else is in it. -/
theorem may_made (m : Mes) : mayM m = (mayP m.kind (partM m) && decide (m = madeM m.kind (partM m))) := by
  unfold mayM
  rw [ok_mayP, only_made]
end Go.Proofs.YtgmejaiifibfoaaGreatDoor
