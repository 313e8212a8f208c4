/-
  Stripping from sign to sign, entries of undressed bytes, what a call of a roll tells and leaves, and what a crash leaves of it, plainly. No program in this text.
-/
import Derived.Test.YthhjdielananeaaRo
import Derived.Test.YthhjdielananeaaTp
set_option linter.unusedSimpArgs false
set_option linter.unusedVariables false
namespace Go.Proofs.Ythhjdielananeaa
open L3 (encN rdN)

/-! From sign to sign -/
/-- The bytes of dressed ones; did a sign stand ahead of them? -/
def stripT : Bool → List UInt8 → Option (List UInt8)
  | sg, [] => if sg = true then none else some []
  | sg, c :: r => if c = 0 then none else if sg = true then (if c = 1 ∨ c = 2 then (stripT false r).map (fun m => (c - 1) :: m) else none) else if c = 1 then stripT true r else (stripT false r).map (fun m => c :: m)
theorem stripT_is : ∀ (n : Nat) (l : List UInt8), l.length ≤ n → stripT false l = strip l := by
  intro n
  induction n with
  | zero =>
    intro l hl
    obtain rfl : l = [] := List.eq_nil_of_length_eq_zero (by omega)
    rfl
  | succ n ih =>
    intro l hl
    match l, hl with
    | [], _ => rfl
    | c :: r, hl =>
      by_cases h0 : c = 0
      · subst h0; rw [strip_mark, stripT, if_pos rfl]
      by_cases h1 : c = 1
      · subst h1
        rw [stripT, if_neg (by decide), if_neg (by decide), if_pos rfl]
        match r, hl with
        | [], _ => rw [strip_one]; rfl
        | d :: r', hl =>
          by_cases hd : d = 1 ∨ d = 2
          · rw [strip_pair hd, stripT, if_neg (by rcases hd with rfl | rfl <;> decide), if_pos rfl, if_pos hd, ih r' (by simp only [List.length_cons] at hl; omega)]
          · rw [strip_bad hd, stripT, if_pos rfl, if_neg hd]
            simp
      · rw [strip_other h0 h1, stripT, if_neg h0, if_neg (by decide), if_neg h1, ih r (by simp only [List.length_cons] at hl; omega)]
theorem strip_is (l : List UInt8) : strip l = stripT false l := (stripT_is _ l (Nat.le_refl _)).symm

/-! Entries of undressed bytes -/
def restN (l : List UInt8) : List UInt8 := if (rdN 0 0 l).2.2 = 0 then l.drop (rdN 0 0 l).2.1 else []
def entV (m : List UInt8) : Ent := ⟨((rdN 0 0 m).1 : Int), ((rdN 0 0 (restN m)).1 : Int), m.drop (m.length - (restN (restN m)).length)⟩
theorem restN_le (l : List UInt8) : (restN l).length ≤ l.length := by
  unfold restN
  split
  · rw [List.length_drop]; omega
  · exact Nat.zero_le _
theorem entV_body {x : Ent} (h : mayE x = 0) : entV (bodyE x) = x := by
  obtain ⟨h1, h2, h3, h4, h5⟩ := may_ok h
  obtain ⟨n, hn⟩ := Int.eq_ofNat_of_zero_le (show 0 ≤ x.num by omega)
  obtain ⟨k, hk⟩ := Int.eq_ofNat_of_zero_le (show 0 ≤ x.kind by omega)
  obtain ⟨xn, xk, b⟩ := x
  dsimp only at hn hk
  subst hn hk
  dsimp only at h1 h2 h3 h4 h5
  have e1 : rdN 0 0 (bodyE ⟨(n : Int), (k : Int), b⟩) = (n, (encN n).length, 0) := by
    unfold bodyE
    rw [List.append_assoc]
    exact L3.rd_enc0 n _ (by omega)
  have e2 : (bodyE ⟨(n : Int), (k : Int), b⟩).drop (encN n).length = encN k ++ b := by
    unfold bodyE
    dsimp only
    rw [List.append_assoc, Int.toNat_natCast, Int.toNat_natCast, List.drop_left]
  have e3 : rdN 0 0 (encN k ++ b) = (k, (encN k).length, 0) := L3.rd_enc0 k b (by omega)
  have r1 : restN (bodyE ⟨(n : Int), (k : Int), b⟩) = encN k ++ b := by unfold restN; rw [e1]; exact (if_pos rfl).trans e2
  have r2 : restN (encN k ++ b) = b := by unfold restN; rw [e3]; exact (if_pos rfl).trans (List.drop_left)
  unfold entV
  rw [r1, r2, e1, e3]
  have hl : (bodyE ⟨(n : Int), (k : Int), b⟩).length - b.length = (encN n ++ encN k).length := by
    unfold bodyE
    simp only [Int.toNat_natCast, List.length_append]
    omega
  have hd : (bodyE ⟨(n : Int), (k : Int), b⟩).drop ((bodyE ⟨(n : Int), (k : Int), b⟩).length - b.length) = b := by
    rw [hl]
    unfold bodyE
    simp only [Int.toNat_natCast]
    exact List.drop_left
  rw [hd]
/-- The entry of a line with its mark. -/
def ulE (l : List UInt8) : Option Ent := if l.getLast? = some 0 then unlineE l.dropLast else none
theorem ul_back {l : List UInt8} {x : Ent} (h : ulE l = some x) : lineE x = l ∧ mayE x = 0 := by
  unfold ulE at h
  split at h
  · next h0 =>
    obtain ⟨e, hm⟩ := line_unline h
    refine ⟨?_, hm⟩
    unfold lineE
    rw [e]
    obtain ⟨m, hl⟩ := List.getLast?_eq_some_iff.1 h0
    rw [hl, List.dropLast_concat]
  · cases h
theorem ul_line {x : Ent} (h : mayE x = 0) : ulE (lineE x) = some x := by
  unfold ulE lineE
  rw [if_pos (by simp), List.dropLast_concat]
  exact unline_line h
/-- Its bytes without a mark at the end, if it has one. -/
def trimL (l : List UInt8) : List UInt8 := if l.getLast? = some 0 then l.dropLast else l
theorem trim_line (x : Ent) : trimL (lineE x) = dress (bodyE x) := by
  unfold trimL lineE
  rw [if_pos (by simp), List.dropLast_concat]
theorem ent_ok (m : List UInt8) : (entV m).b.length ≤ m.length := by
  unfold entV
  rw [List.length_drop]
  omega

/-! What a roll knows -/
structure Rl where
  next : Int
  sum : List UInt8
  recs : List (List UInt8)
  broken : Bool
/-- That of entries. -/
def rlOf (L : List Ent) : Rl := ⟨nextE L, sumE L, recsE L, false⟩
/-- Behind an entry more. -/
def cntR (r : Rl) (x : Ent) : Rl := ⟨x.num + 1, if x.kind = 2 then x.b else r.sum, if x.kind = 2 then [] else r.recs ++ [x.b], r.broken⟩
theorem cnt_snoc (L : List Ent) (x : Ent) : cntR (rlOf L) x = rlOf (L ++ [x]) := by
  unfold cntR rlOf
  rw [next_snoc, sum_snoc, recs_snoc]
def toldR (r : Rl) (e : Int) : Rl := if e = 170 then { r with broken := true } else r
/-- A line written, and held. -/
def keepE (t : Tp) (s : List UInt8) : Int := if writeE t s ≠ 0 then writeE t s else strokeE (writeT t s)
def keepT (t : Tp) (s : List UInt8) : Tp := if writeE t s ≠ 0 then writeT t s else holdT (writeT t s)
/-- What stands against an entry. -/
def askE (r : Rl) (kind : Int) (l : List UInt8) : Int := if r.broken = true then 170 else mayE ⟨r.next, kind, l⟩
def putE (r : Rl) (t : Tp) (kind : Int) (l : List UInt8) : Int := if askE r kind l ≠ 0 then askE r kind l else keepE t (lineE ⟨r.next, kind, l⟩)
def putT (r : Rl) (t : Tp) (kind : Int) (l : List UInt8) : Tp := if askE r kind l ≠ 0 then t else keepT t (lineE ⟨r.next, kind, l⟩)
def putR (r : Rl) (t : Tp) (kind : Int) (l : List UInt8) : Rl := if askE r kind l ≠ 0 then r else if keepE t (lineE ⟨r.next, kind, l⟩) ≠ 0 then toldR r (keepE t (lineE ⟨r.next, kind, l⟩)) else cntR r ⟨r.next, kind, l⟩
/-- The place at which its line begins. -/
def putP (r : Rl) (t : Tp) (kind : Int) (l : List UInt8) : Int := if putE r t kind l ≠ 0 then 0 else (t.stop : Nat)
def addE (r : Rl) (t : Tp) (l : List UInt8) : Int := putE r t 1 l
def sumEE (r : Rl) (t : Tp) (l : List UInt8) : Int := if putE r t 2 l ≠ 0 then putE r t 2 l else shedE (putT r t 2 l) (t.stop : Nat)
def sumT (r : Rl) (t : Tp) (l : List UInt8) : Tp := if putE r t 2 l ≠ 0 then putT r t 2 l else shedT (putT r t 2 l) (t.stop : Nat)
def sumR (r : Rl) (t : Tp) (l : List UInt8) : Rl := if putE r t 2 l ≠ 0 then putR r t 2 l else toldR (putR r t 2 l) (shedE (putT r t 2 l) (t.stop : Nat))
end Go.Proofs.Ythhjdielananeaa
