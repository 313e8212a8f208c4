/-
  What a message has, by its kind: plainly, and as an interface value.
-/
import Derived.Test.YtgmejaiifibfoaaDoorMes
import Derived.Test.YtgmejaiifibfoaaDoorB1
import Derived.Test.YtgmejaiifibfoaaDoorB2
set_option linter.unusedSimpArgs false
set_option linter.unusedVariables false
set_option maxRecDepth 10000
namespace Go.Proofs.YtgmejaiifibfoaaDoor
open Go.RowKit Go.Maps Go.Lib
open L3 (Blk Reads encN numS mostV mostS failS)
open L11 (Crt zeroC crtL crtC mayV bytesV takeC okW)

/-- What a message has. -/
inductive Pt where
  | blk (b : Blo) | crt (c : Crt) | tmo (t : Tmo) | prf (l : List Tmo) | inv (s v : Int) | ele (v : Int) (s : Nat) | wan (s n : Int) | txx (t : Txx) | non
def partM (m : Mes) : Pt :=
  if hasB m.kind then .blk m.block
  else if hasC m.kind then .crt m.cert
  else if m.kind = 3 then .tmo m.tm
  else if m.kind = 4 then .prf m.proof
  else if hasV m.kind then .inv m.signer m.view
  else if m.kind = 7 then .ele m.view m.set
  else if m.kind = 8 then .wan m.signer m.n
  else if m.kind = 11 then .txx m.tx
  else .non
def madeM (k : Int) : Pt → Mes
  | .blk b => { zeroM with kind := k, block := b }
  | .crt c => { zeroM with kind := k, cert := c }
  | .tmo t => { zeroM with kind := k, tm := t }
  | .prf l => { zeroM with kind := k, proof := l }
  | .inv s v => { zeroM with kind := k, signer := s, view := v }
  | .ele v s => { zeroM with kind := k, view := v, set := s }
  | .wan s n => { zeroM with kind := k, signer := s, n := n }
  | .txx t => { zeroM with kind := k, tx := t }
  | .non => { zeroM with kind := k }
def mayP (k : Int) : Pt → Bool
  | .blk b => decide (checkV b = 0)
  | .crt c => cerC k c
  | .tmo t => tmoV t
  | .prf l => prfV l
  | .inv s v => okW s 0 9 && okW v 1 1048576
  | .ele v s => okW v 1 1048576 && decide (1 ≤ s ∧ s ≤ 1023)
  | .wan s n => okW s 0 9 && okW n 1 2147483647
  | .txx t => right t
  | .non => false
def writP : Pt → List UInt8
  | .blk b => bytesB b
  | .crt c => bytesV c
  | .tmo t => encN t.signer.toNat ++ (encN t.view.toNat ++ bytesV t.high)
  | .prf l => encN (l[0]!).view.toNat ++ listB tmB l
  | .inv s v => encN s.toNat ++ encN v.toNat
  | .ele v s => encN v.toNat ++ encN s
  | .wan s n => encN s.toNat ++ encN n.toNat
  | .txx t => bytesT t
  | .non => []
def readP (k : Int) (p : List UInt8 × Int) : Pt × (List UInt8 × Int) :=
  if hasB k then (.blk (takeB p).1, (takeB p).2)
  else if hasC k then (.crt (takeC p).1, (takeC p).2)
  else if k = 3 then (.tmo ⟨fitM (numV p), fitM (numV (numS p)), (takeC (numS (numS p))).1⟩, (takeC (numS (numS p))).2)
  else if k = 4 then (.prf (listG (oneM (fitM (numV p))) (mostV 10 (numS p)).toNat (mostS 10 (numS p))), itG (oneM (fitM (numV p))) (mostV 10 (numS p)).toNat (mostS 10 (numS p)))
  else if hasV k then (.inv (fitM (numV p)) (fitM (numV (numS p))), numS (numS p))
  else if k = 7 then (.ele (fitM (numV p)) (fitMU (numV (numS p))), numS (numS p))
  else if k = 8 then (.wan (fitM (numV p)) (fitM (numV (numS p))), numS (numS p))
  else if k = 11 then (.txx (takeT p).1, (takeT p).2)
  else (.non, failS 140 p)
/-- Which part stands with a kind. -/
def kindP (k : Int) : Pt → Prop
  | .crt _ => hasC k
  | _ => True
theorem part_kind (m : Mes) : kindP m.kind (partM m) := by
  unfold partM
  by_cases c1 : hasB m.kind
  · rw [if_pos c1]; trivial
  rw [if_neg c1]
  by_cases c2 : hasC m.kind
  · rw [if_pos c2]; exact c2
  rw [if_neg c2]
  repeat' split
  all_goals trivial
theorem only_made (m : Mes) : onlyM m = madeM m.kind (partM m) := by
  unfold onlyM partM
  by_cases c1 : hasB m.kind
  · rw [if_pos c1, if_pos c1]; rfl
  rw [if_neg c1, if_neg c1]
  by_cases c2 : hasC m.kind
  · rw [if_pos c2, if_pos c2]; rfl
  rw [if_neg c2, if_neg c2]
  by_cases c3 : m.kind = 3
  · rw [if_pos c3, if_pos c3]; rfl
  rw [if_neg c3, if_neg c3]
  by_cases c4 : m.kind = 4
  · rw [if_pos c4, if_pos c4]; rfl
  rw [if_neg c4, if_neg c4]
  by_cases c5 : hasV m.kind
  · rw [if_pos c5, if_pos c5]; rfl
  rw [if_neg c5, if_neg c5]
  by_cases c6 : m.kind = 7
  · rw [if_pos c6, if_pos c6]; rfl
  rw [if_neg c6, if_neg c6]
  by_cases c7 : m.kind = 8
  · rw [if_pos c7, if_pos c7]; rfl
  rw [if_neg c7, if_neg c7]
  by_cases c8 : m.kind = 11
  · rw [if_pos c8, if_pos c8]; rfl
  rw [if_neg c8, if_neg c8]; rfl
theorem ok_mayP (m : Mes) : okM m = mayP m.kind (partM m) := by
  unfold okM partM
  by_cases c1 : hasB m.kind
  · rw [if_pos c1, if_pos c1]; rfl
  rw [if_neg c1, if_neg c1]
  by_cases c2 : hasC m.kind
  · rw [if_pos c2, if_pos c2]; rfl
  rw [if_neg c2, if_neg c2]
  by_cases c3 : m.kind = 3
  · rw [if_pos c3, if_pos c3]; rfl
  rw [if_neg c3, if_neg c3]
  by_cases c4 : m.kind = 4
  · rw [if_pos c4, if_pos c4]; rfl
  rw [if_neg c4, if_neg c4]
  by_cases c5 : hasV m.kind
  · rw [if_pos c5, if_pos c5]; rfl
  rw [if_neg c5, if_neg c5]
  by_cases c6 : m.kind = 7
  · rw [if_pos c6, if_pos c6]; rfl
  rw [if_neg c6, if_neg c6]
  by_cases c7 : m.kind = 8
  · rw [if_pos c7, if_pos c7]; rfl
  rw [if_neg c7, if_neg c7]
  by_cases c8 : m.kind = 11
  · rw [if_pos c8, if_pos c8]; rfl
  rw [if_neg c8, if_neg c8]; rfl
theorem body_writ (m : Mes) : bodyM m = writP (partM m) := by
  unfold bodyM partM
  by_cases c1 : hasB m.kind
  · rw [if_pos c1, if_pos c1]; rfl
  rw [if_neg c1, if_neg c1]
  by_cases c2 : hasC m.kind
  · rw [if_pos c2, if_pos c2]; rfl
  rw [if_neg c2, if_neg c2]
  by_cases c3 : m.kind = 3
  · rw [if_pos c3, if_pos c3]; rfl
  rw [if_neg c3, if_neg c3]
  by_cases c4 : m.kind = 4
  · rw [if_pos c4, if_pos c4]; rfl
  rw [if_neg c4, if_neg c4]
  by_cases c5 : hasV m.kind
  · rw [if_pos c5, if_pos c5]; rfl
  rw [if_neg c5, if_neg c5]
  by_cases c6 : m.kind = 7
  · rw [if_pos c6, if_pos c6]; rfl
  rw [if_neg c6, if_neg c6]
  by_cases c7 : m.kind = 8
  · rw [if_pos c7, if_pos c7]; rfl
  rw [if_neg c7, if_neg c7]
  by_cases c8 : m.kind = 11
  · rw [if_pos c8, if_pos c8]; rfl
  rw [if_neg c8, if_neg c8]; rfl
theorem rest_readP (k : Int) (p : List UInt8 × Int) : restM k p = (madeM k (readP k p).1, (readP k p).2) := by
  unfold restM readP
  by_cases c1 : hasB k
  · rw [if_pos c1, if_pos c1]; simp only [madeM]
  rw [if_neg c1, if_neg c1]
  by_cases c2 : hasC k
  · rw [if_pos c2, if_pos c2]; simp only [madeM]
  rw [if_neg c2, if_neg c2]
  by_cases c3 : k = 3
  · rw [if_pos c3, if_pos c3]; simp only [madeM]
  rw [if_neg c3, if_neg c3]
  by_cases c4 : k = 4
  · rw [if_pos c4, if_pos c4]; simp only [madeM]
  rw [if_neg c4, if_neg c4]
  by_cases c5 : hasV k
  · rw [if_pos c5, if_pos c5]; simp only [madeM]
  rw [if_neg c5, if_neg c5]
  by_cases c6 : k = 7
  · rw [if_pos c6, if_pos c6]; simp only [madeM]
  rw [if_neg c6, if_neg c6]
  by_cases c7 : k = 8
  · rw [if_pos c7, if_pos c7]; simp only [madeM]
  rw [if_neg c7, if_neg c7]
  by_cases c8 : k = 11
  · rw [if_pos c8, if_pos c8]; simp only [madeM]
  rw [if_neg c8, if_neg c8]; simp only [madeM]
/-- A message may be one, if its part may, and nothing else is in it. -/
theorem may_made (m : Mes) : mayM m = (mayP m.kind (partM m) && decide (m = madeM m.kind (partM m))) := by
  unfold mayM
  rw [ok_mayP, only_made]
end Go.Proofs.YtgmejaiifibfoaaDoor
