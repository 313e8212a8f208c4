/-
  Dressed bytes, lines of entries, and what stands on a roll, plainly. No program in this text.
-/
import Derived.Test.YthhjdielananeaaL3WireMath
import Derived.Lib.Strings
set_option linter.unusedSimpArgs false
set_option linter.unusedVariables false
namespace Go.Proofs.Ythhjdielananeaa
open L3 (encN rdN)

/-! Dressed bytes -/
def dress : List UInt8 → List UInt8
  | [] => []
  | c :: r => (if c = 0 then [1, 1] else if c = 1 then [1, 2] else [c]) ++ dress r
def strip : List UInt8 → Option (List UInt8)
  | [] => some []
  | [c] => if c = 0 then none else if c = 1 then none else some [c]
  | c :: d :: r => if c = 0 then none else if c = 1 then (if d = 1 ∨ d = 2 then (strip r).map (fun m => (d - 1) :: m) else none) else (strip (d :: r)).map (fun m => c :: m)
theorem strip_other {c : UInt8} {r : List UInt8} (h0 : c ≠ 0) (h1 : c ≠ 1) : strip (c :: r) = (strip r).map (fun m => c :: m) := by
  cases r with
  | nil =>
    have e : strip [c] = if c = 0 then none else if c = 1 then none else some [c] := by rw [strip]
    rw [e, if_neg h0, if_neg h1]; rfl
  | cons d r => rw [strip, if_neg h0, if_neg h1]
theorem strip_pair {d : UInt8} {r : List UInt8} (h : d = 1 ∨ d = 2) : strip (1 :: d :: r) = (strip r).map (fun m => (d - 1) :: m) := by
  rw [strip, if_neg (by decide), if_pos rfl, if_pos h]
theorem strip_mark {r : List UInt8} : strip (0 :: r) = none := by
  cases r with
  | nil => rw [strip, if_pos rfl]
  | cons d r => rw [strip, if_pos rfl]
theorem strip_one : strip [1] = none := by rw [strip, if_neg (by decide), if_pos rfl]
theorem strip_bad {d : UInt8} {r : List UInt8} (h : ¬ (d = 1 ∨ d = 2)) : strip (1 :: d :: r) = none := by
  rw [strip, if_neg (by decide), if_pos rfl, if_neg h]
theorem strip_dress : ∀ l : List UInt8, strip (dress l) = some l
  | [] => rfl
  | c :: r => by
    unfold dress
    by_cases h0 : c = 0
    · subst h0
      rw [if_pos rfl]
      show strip (1 :: 1 :: dress r) = _
      rw [strip_pair (.inl rfl), strip_dress r]
      rfl
    · rw [if_neg h0]
      by_cases h1 : c = 1
      · subst h1
        rw [if_pos rfl]
        show strip (1 :: 2 :: dress r) = _
        rw [strip_pair (.inr rfl), strip_dress r]
        rfl
      · rw [if_neg h1]
        show strip (c :: dress r) = _
        rw [strip_other h0 h1, strip_dress r]
        rfl
theorem dress_strip : ∀ (n : Nat) (l m : List UInt8), l.length ≤ n → strip l = some m → dress m = l := by
  intro n
  induction n with
  | zero =>
    intro l m hl h
    obtain rfl : l = [] := List.eq_nil_of_length_eq_zero (by omega)
    injection h with h
    subst h
    rfl
  | succ n ih =>
    intro l m hl h
    match l, hl, h with
    | [], _, h => injection h with h; subst h; rfl
    | c :: r, hl, h =>
      by_cases h0 : c = 0
      · subst h0; rw [strip_mark] at h; cases h
      by_cases h1 : c = 1
      · subst h1
        match r, hl, h with
        | [], _, h => rw [strip_one] at h; cases h
        | d :: r', hl, h =>
          by_cases hd : d = 1 ∨ d = 2
          · rw [strip_pair hd] at h
            cases hs : strip r' with
            | none => rw [hs] at h; cases h
            | some m' =>
              rw [hs] at h
              injection h with h
              subst h
              have := ih r' m' (by simp only [List.length_cons] at hl; omega) hs
              unfold dress
              rcases hd with rfl | rfl
              · rw [if_pos (by decide), this]; rfl
              · rw [if_neg (by decide), if_pos (by decide), this]; rfl
          · rw [strip_bad hd] at h
            cases h
      · rw [strip_other h0 h1] at h
        cases hs : strip r with
        | none => rw [hs] at h; cases h
        | some m' =>
          rw [hs] at h
          injection h with h
          subst h
          have := ih r m' (by simp only [List.length_cons] at hl; omega) hs
          unfold dress
          rw [if_neg h0, if_neg h1, this]
          rfl
theorem dress_mark : ∀ l : List UInt8, (0 : UInt8) ∉ dress l
  | [] => by simp [dress]
  | c :: r => by
    unfold dress
    rw [List.mem_append]
    rintro (h | h)
    · split at h
      · simp at h
      · split at h
        · simp at h
        · next h0 _ => simp at h; exact h0 h.symm
    · exact dress_mark r h
theorem dress_len : ∀ l : List UInt8, l.length ≤ (dress l).length ∧ (dress l).length ≤ 2 * l.length
  | [] => ⟨Nat.le_refl _, Nat.le_refl _⟩
  | c :: r => by
    have := dress_len r
    unfold dress
    rw [List.length_append, List.length_cons]
    have h1 : (if c = 0 then [1, 1] else if c = 1 then [1, 2] else [c] : List UInt8).length = 2 ∨ (if c = 0 then [1, 1] else if c = 1 then [1, 2] else [c] : List UInt8).length = 1 := by
      split
      · exact .inl rfl
      · split
        · exact .inl rfl
        · exact .inr rfl
    omega

/-! Lines -/
/-- An entry. -/
structure Ent where
  num : Int
  kind : Int
  b : List UInt8
deriving DecidableEq, Inhabited
def mayE (x : Ent) : Int := if x.num < 1 ∨ 4611686018427387904 < x.num ∨ x.kind < 1 ∨ 2 < x.kind then 1 else if 4194304 < x.b.length then 2 else 0
def bodyE (x : Ent) : List UInt8 := encN x.num.toNat ++ encN x.kind.toNat ++ x.b
def lineE (x : Ent) : List UInt8 := dress (bodyE x) ++ [0]
/-- The entry of undressed bytes. -/
def ofBody (l : List UInt8) : Option Ent :=
  let p := rdN 0 0 l
  if p.2.2 ≠ 0 then none else
  let q := rdN 0 0 (l.drop p.2.1)
  if q.2.2 ≠ 0 then none else
  let x : Ent := ⟨p.1, q.1, (l.drop p.2.1).drop q.2.1⟩
  if mayE x = 0 then some x else none
/-- The entry of a line, without its mark. -/
def unlineE (l : List UInt8) : Option Ent := (strip l).bind ofBody
theorem may_ok {x : Ent} (h : mayE x = 0) : 1 ≤ x.num ∧ x.num ≤ 4611686018427387904 ∧ 1 ≤ x.kind ∧ x.kind ≤ 2 ∧ x.b.length ≤ 4194304 := by
  unfold mayE at h
  split at h
  · cases h
  · split at h
    · cases h
    · omega
theorem ofBody_body {x : Ent} (h : mayE x = 0) : ofBody (bodyE x) = some x := by
  obtain ⟨h1, h2, h3, h4, h5⟩ := may_ok h
  obtain ⟨n, hn⟩ := Int.eq_ofNat_of_zero_le (show 0 ≤ x.num by omega)
  obtain ⟨k, hk⟩ := Int.eq_ofNat_of_zero_le (show 0 ≤ x.kind by omega)
  obtain ⟨xn, xk, b⟩ := x
  dsimp only at hn hk
  subst hn hk
  dsimp only at h1 h2 h3 h4 h5
  have e1 : rdN 0 0 (bodyE ⟨(n : Int), (k : Int), b⟩) = (n, (encN n).length, 0) := by
    unfold bodyE
    rw [List.append_assoc]
    exact L3.rd_enc0 n _ (by omega)
  have e2 : (bodyE ⟨(n : Int), (k : Int), b⟩).drop (encN n).length = encN k ++ b := by
    unfold bodyE
    dsimp only
    rw [List.append_assoc, Int.toNat_natCast, Int.toNat_natCast, List.drop_left]
  have e3 : rdN 0 0 (encN k ++ b) = (k, (encN k).length, 0) := L3.rd_enc0 k b (by omega)
  unfold ofBody
  simp only [e1, e2, e3, List.drop_left]
  rw [if_neg (by simp), if_neg (by simp), if_pos h]
theorem unline_line {x : Ent} (h : mayE x = 0) : unlineE (dress (bodyE x)) = some x := by
  unfold unlineE
  rw [strip_dress]
  exact ofBody_body h
theorem body_ofBody {l : List UInt8} {x : Ent} (h : ofBody l = some x) : bodyE x = l ∧ mayE x = 0 := by
  unfold ofBody at h
  obtain ⟨n, s, e, hp⟩ : ∃ n s e, rdN 0 0 l = (n, s, e) := ⟨_, _, _, rfl⟩
  simp only [hp] at h
  obtain ⟨k, s2, e2, hq⟩ : ∃ k s2 e2, rdN 0 0 (l.drop s) = (k, s2, e2) := ⟨_, _, _, rfl⟩
  simp only [hq] at h
  split at h
  · cases h
  next h1 =>
  split at h
  · cases h
  next h2 =>
  split at h
  next h3 =>
    injection h with h
    subst h
    have z1 : e = 0 := by simpa using h1
    have z2 : e2 = 0 := by simpa using h2
    subst z1 z2
    obtain ⟨b1, _, _, _⟩ := L3.rd_back0 hp
    obtain ⟨b2, _, _, _⟩ := L3.rd_back0 hq
    refine ⟨?_, h3⟩
    unfold bodyE
    dsimp only
    rw [Int.toNat_natCast, Int.toNat_natCast, b1, b2, List.append_assoc, List.take_append_drop, List.take_append_drop]
  · cases h
/-- What has an entry is its line alone. -/
theorem line_unline {l : List UInt8} {x : Ent} (h : unlineE l = some x) : dress (bodyE x) = l ∧ mayE x = 0 := by
  unfold unlineE at h
  cases hs : strip l with
  | none => rw [hs] at h; cases h
  | some m =>
    rw [hs] at h
    obtain ⟨e, hm⟩ := body_ofBody (show ofBody m = some x from h)
    exact ⟨by rw [e]; exact dress_strip _ l m (Nat.le_refl _) hs, hm⟩

/-! What stands on a tape -/
/-- Lines (without their marks) and the torn end. -/
def cutL (cur : List UInt8) : List UInt8 → List (List UInt8) × List UInt8
  | [] => ([], cur)
  | c :: r => if c = 0 then (cur :: (cutL [] r).1, (cutL [] r).2) else cutL (cur ++ [c]) r
theorem cut_free : ∀ (l cur : List UInt8), (0 : UInt8) ∉ l → cutL cur l = ([], cur ++ l)
  | [], cur, _ => by rw [cutL, List.append_nil]
  | c :: r, cur, h => by
    have hc : c ≠ 0 := fun e => h (e ▸ List.mem_cons_self)
    rw [cutL, if_neg hc, cut_free r (cur ++ [c]) (fun e => h (List.mem_cons_of_mem _ e)), List.append_assoc]
    rfl
theorem cut_mark : ∀ (l cur r : List UInt8), (0 : UInt8) ∉ l → cutL cur (l ++ 0 :: r) = ((cur ++ l) :: (cutL [] r).1, (cutL [] r).2)
  | [], cur, r, _ => by rw [List.nil_append, cutL, if_pos rfl, List.append_nil]
  | c :: l, cur, r, h => by
    have hc : c ≠ 0 := fun e => h (e ▸ List.mem_cons_self)
    rw [List.cons_append, cutL, if_neg hc, cut_mark l (cur ++ [c]) r (fun e => h (List.mem_cons_of_mem _ e)), List.append_assoc]
    rfl
def flatE (L : List Ent) : List UInt8 := L.flatMap lineE
theorem cut_flat : ∀ (L : List Ent) (t : List UInt8), (0 : UInt8) ∉ t → cutL [] (flatE L ++ t) = (L.map (fun x => dress (bodyE x)), t)
  | [], t, h => by
    show cutL [] ([] ++ t) = _
    rw [List.nil_append, cut_free t [] h]
    rfl
  | x :: L, t, h => by
    have e : flatE (x :: L) ++ t = dress (bodyE x) ++ 0 :: (flatE L ++ t) := by
      unfold flatE
      rw [List.flatMap_cons]
      unfold lineE
      simp
    rw [e, cut_mark _ _ _ (dress_mark _), cut_flat L t h]
    rfl
/-- Numbers that rise by one, each an entry that may be. -/
def risesE : List Ent → Prop
  | [] => True
  | [x] => mayE x = 0
  | x :: y :: L => mayE x = 0 ∧ y.num = x.num + 1 ∧ risesE (y :: L)
def sumE (L : List Ent) : List UInt8 := ((L.reverse.find? (fun x => decide (x.kind = 2))).map (·.b)).getD []
def recsE : List Ent → List (List UInt8)
  | [] => []
  | L => L.foldl (fun a x => if x.kind = 2 then [] else a ++ [x.b]) []
def nextE (L : List Ent) : Int := match L.getLast? with
  | none => 1
  | some x => x.num + 1
theorem recs_snoc (L : List Ent) (x : Ent) : recsE (L ++ [x]) = if x.kind = 2 then [] else recsE L ++ [x.b] := by
  have e : ∀ M : List Ent, recsE M = M.foldl (fun a x => if x.kind = 2 then [] else a ++ [x.b]) [] := fun M => by cases M <;> rfl
  rw [e, e, List.foldl_append]
  rfl
theorem sum_snoc (L : List Ent) (x : Ent) : sumE (L ++ [x]) = if x.kind = 2 then x.b else sumE L := by
  unfold sumE
  rw [List.reverse_append]
  show ((List.find? _ (x :: L.reverse)).map _).getD [] = _
  rw [List.find?_cons]
  by_cases h : x.kind = 2
  · rw [if_pos h]
    simp [h]
  · rw [if_neg h]
    simp [h]
theorem next_snoc (L : List Ent) (x : Ent) : nextE (L ++ [x]) = x.num + 1 := by unfold nextE; simp
theorem rises_snoc : ∀ (L : List Ent) (x : Ent), risesE L → mayE x = 0 → (L = [] ∨ x.num = nextE L) → risesE (L ++ [x])
  | [], x, _, h, _ => h
  | [y], x, hy, h, hn => by
    refine ⟨hy, ?_, h⟩
    rcases hn with hn | hn
    · cases hn
    · exact hn
  | y :: z :: L, x, hy, h, hn => by
    obtain ⟨h1, h2, h3⟩ := hy
    refine ⟨h1, h2, rises_snoc (z :: L) x h3 h (.inr ?_)⟩
    rcases hn with hn | hn
    · cases hn
    · rw [hn]
      unfold nextE
      simp
/-- A beginning of a line: whole, or without a mark. -/
theorem line_part (x : Ent) (k : Nat) : (lineE x).take k = lineE x ∨ (0 : UInt8) ∉ (lineE x).take k := by
  have hl : (lineE x).length = (dress (bodyE x)).length + 1 := by unfold lineE; simp
  rcases Nat.lt_or_ge k (lineE x).length with h | h
  · right
    have e : (lineE x).take k = (dress (bodyE x)).take k := by
      unfold lineE
      rw [List.take_append_of_le_length (by omega)]
    rw [e]
    exact fun hm => dress_mark _ (List.mem_of_mem_take hm)
  · exact .inl (List.take_of_length_le h)
theorem line_pos (x : Ent) : 0 < (lineE x).length := by unfold lineE; simp
theorem line_len {x : Ent} (h : mayE x = 0) : (lineE x).length ≤ 2 * x.b.length + 37 := by
  obtain ⟨h1, h2, h3, h4, h5⟩ := may_ok h
  have e1 := L3.encN_le9 (n := x.num.toNat) (by omega)
  have e2 := L3.encN_le9 (n := x.kind.toNat) (by omega)
  have := (dress_len (bodyE x)).2
  unfold lineE
  rw [List.length_append]
  have hb : (bodyE x).length = (encN x.num.toNat).length + (encN x.kind.toNat).length + x.b.length := by unfold bodyE; rw [List.length_append, List.length_append]
  simp only [List.length_singleton]
  omega
end Go.Proofs.Ythhjdielananeaa
