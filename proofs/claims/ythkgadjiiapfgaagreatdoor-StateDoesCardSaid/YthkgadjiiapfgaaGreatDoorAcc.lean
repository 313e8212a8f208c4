/-
  Accounts and keys, and what transactions do to them, plainly.
-/
import Derived.Test.YthkgadjiiapfgaaGreatDoorTx
import Derived.Test.YthkgadjiiapfgaaGreatDoorSort
set_option linter.unusedSimpArgs false
set_option linter.unusedVariables false
namespace Go.Proofs.YthkgadjiiapfgaaGreatDoor
open Go.RowKit Go.Lib

structure Acc where
  nm : List UInt8
  am : Int
  no : Int
deriving DecidableEq, Inhabited
structure Vl where
  who : List UInt8
  key : List UInt8
  val : List UInt8
deriving DecidableEq, Inhabited
structure Stt where
  A : List Acc
  V : List Vl
/-- Somebody's account. -/
def ofA : List Acc → List UInt8 → Acc
  | [], who => ⟨who, 0, 0⟩
  | a :: A, who => if a.nm = who then a else ofA A who
/-- With somebody's account. -/
def putA (A : List Acc) (a : Acc) : List Acc := A.filter (fun x => decide (x.nm ≠ a.nm)) ++ [a]
/-- The value of somebody's key. -/
def getV : List Vl → List UInt8 → List UInt8 → List UInt8
  | [], _, _ => []
  | v :: V, who, key => if v.who = who ∧ v.key = key then v.val else getV V who key
/-- With the value of somebody's key. -/
def putV (V : List Vl) (v : Vl) : List Vl := V.filter (fun x => decide (x.who ≠ v.who ∨ x.key ≠ v.key)) ++ [v]
def keyV (v : Vl) : List UInt8 × List UInt8 := (v.who, v.key)
theorem ofA_nm : ∀ (A : List Acc) (who : List UInt8), (ofA A who).nm = who
  | [], _ => rfl
  | a :: A, who => by
    unfold ofA
    split
    · next h => exact h
    · exact ofA_nm A who
theorem ofA_app (A B : List Acc) (who : List UInt8) (h : ∀ x ∈ A, x.nm ≠ who) : ofA (A ++ B) who = ofA B who := by
  induction A with
  | nil => rfl
  | cons a A ih =>
    rw [List.cons_append, ofA, if_neg (h a (List.mem_cons_self ..))]
    exact ih fun x hx => h x (List.mem_cons_of_mem _ hx)
theorem ofA_put_same (A : List Acc) (a : Acc) : ofA (putA A a) a.nm = a := by
  unfold putA
  rw [ofA_app _ _ _ (fun x hx => by simpa using (List.mem_filter.1 hx).2), ofA, if_pos rfl]
theorem ofA_put_other (A : List Acc) (a : Acc) {who : List UInt8} (h : who ≠ a.nm) : ofA (putA A a) who = ofA A who := by
  unfold putA
  induction A with
  | nil => simp [ofA, Ne.symm h]
  | cons x A ih =>
    by_cases hx : x.nm = a.nm
    · rw [List.filter_cons_of_neg (by simpa using hx), ih, ofA, if_neg (fun e => h (e.symm.trans hx))]
    · rw [List.filter_cons_of_pos (by simpa using hx), List.cons_append, ofA, ofA]
      split
      · rfl
      · exact ih
theorem ofA_put (A : List Acc) (a : Acc) (who : List UInt8) : ofA (putA A a) who = if who = a.nm then a else ofA A who := by
  split
  · next h => rw [h]; exact ofA_put_same A a
  · next h => exact ofA_put_other A a h
theorem getV_app (V W : List Vl) (who key : List UInt8) (h : ∀ x ∈ V, ¬ (x.who = who ∧ x.key = key)) : getV (V ++ W) who key = getV W who key := by
  induction V with
  | nil => rfl
  | cons a V ih =>
    rw [List.cons_append, getV, if_neg (h a (List.mem_cons_self ..))]
    exact ih fun x hx => h x (List.mem_cons_of_mem _ hx)
theorem getV_put (V : List Vl) (v : Vl) (who key : List UInt8) : getV (putV V v) who key = if who = v.who ∧ key = v.key then v.val else getV V who key := by
  unfold putV
  split
  · next h =>
    obtain ⟨rfl, rfl⟩ := h
    rw [getV_app _ _ _ _ (fun x hx => by
      have := (List.mem_filter.1 hx).2
      simp only [decide_eq_true_eq] at this
      exact fun e => this.elim (fun h => h e.1) (fun h => h e.2)), getV, if_pos ⟨rfl, rfl⟩]
  · next h =>
    induction V with
    | nil => simp only [List.filter_nil, List.nil_append, getV]; rw [if_neg (fun e => h ⟨e.1.symm, e.2.symm⟩)]
    | cons x V ih =>
      by_cases hx : x.who ≠ v.who ∨ x.key ≠ v.key
      · rw [List.filter_cons_of_pos (by simpa using hx), List.cons_append, getV, getV]
        split
        · rfl
        · exact ih
      · rw [List.filter_cons_of_neg (by simpa using hx), ih, getV, if_neg]
        intro e
        refine h ⟨?_, ?_⟩
        · rw [← e.1]; exact Classical.byContradiction fun h1 => hx (.inl h1)
        · rw [← e.2]; exact Classical.byContradiction fun h1 => hx (.inr h1)
/-- No name twice, no key twice. -/
def Stt.ok (s : Stt) : Prop := Apart Acc.nm s.A ∧ Apart keyV s.V
theorem apart_snoc {κ α : Type} {f : α → κ} {L : List α} {x : α} (h : Apart f L) (hx : ∀ y ∈ L, f y ≠ f x) : Apart f (L ++ [x]) := by
  refine List.pairwise_append.2 ⟨h, by simp, fun a ha b hb => ?_⟩
  simp at hb
  rw [hb]
  exact hx a ha
theorem putA_apart {A : List Acc} (h : Apart Acc.nm A) (a : Acc) : Apart Acc.nm (putA A a) :=
  apart_snoc (h.filter _) fun y hy => by simpa using (List.mem_filter.1 hy).2
theorem putV_apart {V : List Vl} (h : Apart keyV V) (v : Vl) : Apart keyV (putV V v) :=
  apart_snoc (h.filter _) fun y hy => by
    have := (List.mem_filter.1 hy).2
    simp only [decide_eq_true_eq] at this
    intro e
    unfold keyV at e
    injection e with e1 e2
    exact this.elim (fun h => h e1) (fun h => h e2)
/-- Who is there is told. -/
theorem ofA_mem {A : List Acc} (h : Apart Acc.nm A) {a : Acc} (ha : a ∈ A) : ofA A a.nm = a := by
  induction A with
  | nil => cases ha
  | cons x A ih =>
    have hc := List.pairwise_cons.1 h
    unfold ofA
    rcases List.mem_cons.1 ha with e | e
    · rw [← e, if_pos rfl]
    · rw [if_neg (hc.1 a e)]; exact ih hc.2 e
theorem ofA_there {A : List Acc} {who : List UInt8} (h : ofA A who ≠ ⟨who, 0, 0⟩) : ofA A who ∈ A := by
  induction A with
  | nil => exact absurd rfl h
  | cons x A ih =>
    unfold ofA at h ⊢
    split
    · exact List.mem_cons_self ..
    · next hx => rw [if_neg hx] at h; exact List.mem_cons_of_mem _ (ih h)
theorem getV_mem {V : List Vl} (h : Apart keyV V) {v : Vl} (hv : v ∈ V) : getV V v.who v.key = v.val := by
  induction V with
  | nil => cases hv
  | cons x V ih =>
    have hc := List.pairwise_cons.1 h
    unfold getV
    rcases List.mem_cons.1 hv with e | e
    · rw [← e, if_pos ⟨rfl, rfl⟩]
    · rw [if_neg (fun e2 => hc.1 v e (by unfold keyV; rw [e2.1, e2.2]))]; exact ih hc.2 e
theorem getV_there {V : List Vl} {who key : List UInt8} (h : getV V who key ≠ []) : ⟨who, key, getV V who key⟩ ∈ V := by
  induction V with
  | nil => exact absurd rfl h
  | cons x V ih =>
    unfold getV at h ⊢
    split
    · next hx =>
      obtain ⟨rfl, rfl⟩ := hx
      exact List.mem_cons_self ..
    · next hx => rw [if_neg hx] at h; exact List.mem_cons_of_mem _ (ih h)
/-- Two states that answer the same. -/
def Same (s z : Stt) : Prop := (∀ who, ofA s.A who = ofA z.A who) ∧ ∀ who key, getV s.V who key = getV z.V who key
theorem Same.refl (s : Stt) : Same s s := ⟨fun _ => rfl, fun _ _ => rfl⟩
theorem Same.symm {s z : Stt} (h : Same s z) : Same z s := ⟨fun w => (h.1 w).symm, fun w k => (h.2 w k).symm⟩
theorem Same.trans {s z y : Stt} (h : Same s z) (k : Same z y) : Same s y := ⟨fun w => (h.1 w).trans (k.1 w), fun w a => (h.2 w a).trans (k.2 w a)⟩
/-- Has it something? -/
def someA (a : Acc) : Bool := decide (a.am ≠ 0 ∨ a.no ≠ 0)
def someV (v : Vl) : Bool := !v.val.isEmpty
def lineA (a : Acc) : List UInt8 := a.nm ++ 32 :: (itoa a.am ++ 32 :: (itoa a.no ++ [10]))
def lineV (v : Vl) : List UInt8 := v.who ++ 9 :: (v.key ++ 9 :: (v.val ++ [10]))
/-- An order of pairs. -/
def lt2 (lt : List UInt8 → List UInt8 → Bool) (a b : List UInt8 × List UInt8) : Bool := lt a.1 b.1 || (decide (a.1 = b.1) && lt a.2 b.2)
theorem ordered2 {lt : List UInt8 → List UInt8 → Bool} (h : Ordered lt) : Ordered (lt2 lt) where
  irr a := by unfold lt2; rw [h.irr, h.irr]; simp
  flip := by
    rintro ⟨a1, a2⟩ ⟨b1, b2⟩ hne
    unfold lt2
    dsimp only
    by_cases h1 : a1 = b1
    · subst h1
      have h2 : a2 ≠ b2 := fun e => hne (by rw [e])
      rw [h.irr, h.flip h2]; simp
    · rw [h.flip h1, decide_eq_false h1, decide_eq_false (fun e => h1 e.symm)]; simp
  trans := by
    rintro ⟨a1, a2⟩ ⟨b1, b2⟩ ⟨c1, c2⟩ hab hbc
    unfold lt2 at *
    dsimp only at *
    simp only [Bool.or_eq_true, Bool.and_eq_true, decide_eq_true_eq] at *
    rcases hab with h1 | ⟨rfl, h1⟩ <;> rcases hbc with h2 | ⟨rfl, h2⟩
    · exact .inl (h.trans h1 h2)
    · exact .inl h1
    · exact .inl h2
    · exact .inr ⟨rfl, h.trans h1 h2⟩
/-- A state's text. -/
def digT (lt : List UInt8 → List UInt8 → Bool) (s : Stt) : List UInt8 :=
  (isort lt Acc.nm (s.A.filter someA)).flatMap lineA ++ (isort (lt2 lt) keyV (s.V.filter someV)).flatMap lineV
theorem filterA_same {s z : Stt} (hs : s.ok) (hz : z.ok) (h : Same s z) (x : Acc) (hx : x ∈ s.A.filter someA) : x ∈ z.A.filter someA := by
  obtain ⟨h1, h2⟩ := List.mem_filter.1 hx
  refine List.mem_filter.2 ⟨?_, h2⟩
  have e := ofA_mem hs.1 h1
  rw [h.1] at e
  have : ofA z.A x.nm ≠ ⟨x.nm, 0, 0⟩ := fun e' => by
    rw [e] at e'
    unfold someA at h2
    rw [e'] at h2
    simp at h2
  rw [← e]
  exact ofA_there this
theorem filterV_same {s z : Stt} (hs : s.ok) (hz : z.ok) (h : Same s z) (x : Vl) (hx : x ∈ s.V.filter someV) : x ∈ z.V.filter someV := by
  obtain ⟨h1, h2⟩ := List.mem_filter.1 hx
  refine List.mem_filter.2 ⟨?_, h2⟩
  have e := getV_mem hs.2 h1
  rw [h.2] at e
  have : getV z.V x.who x.key ≠ [] := fun e' => by
    rw [e] at e'
    unfold someV at h2
    rw [e'] at h2
    simp at h2
  have := getV_there this
  rw [e] at this
  exact this
/-- Who answers the same has one text. -/
theorem dig_same {lt : List UInt8 → List UInt8 → Bool} (ho : Ordered lt) {s z : Stt} (hs : s.ok) (hz : z.ok) (h : Same s z) : digT lt s = digT lt z := by
  unfold digT
  rw [isort_same ho (hs.1.filter _) (hz.1.filter _) fun x => ⟨filterA_same hs hz h x, filterA_same hz hs h.symm x⟩,
    isort_same (ordered2 ho) (hs.2.filter _) (hz.2.filter _) fun x => ⟨filterV_same hs hz h x, filterV_same hz hs h.symm x⟩]
end Go.Proofs.YthkgadjiiapfgaaGreatDoor
