/-
  Trees of blocks, plainly: what hangs at the root, what comes in, paths, what is missing, pruning. No program in this text.
-/
import Derived.Lib.Strings
set_option linter.unusedSimpArgs false
set_option linter.unusedVariables false
namespace Go.Proofs.Ytgclofemhhhepaa

/-- What the statements' blocks have: View, Round, the parent's number and Round; all else is zero. -/
structure Bl where
  v : Int
  rd : Int
  p : Int
  pr : Int
deriving DecidableEq, Inhabited
/-- A block with its number; is it in the tree? -/
structure Ent where
  n : Int
  b : Bl
  isin : Bool
deriving DecidableEq, Inhabited
abbrev Ent.p (e : Ent) : Int := e.b.p
abbrev Ent.rd (e : Ent) : Int := e.b.rd
/-- What a number hangs at, step by step: the root. -/
inductive Hang (r : Int) (L : List Ent) : Int → Prop
  | root : Hang r L r
  | up (e : Ent) : e ∈ L → Hang r L e.p → Hang r L e.n
/-- A path: from behind the root on. -/
inductive PathIs (r : Int) (L : List Ent) : Int → List Int → Prop
  | root : PathIs r L r []
  | up (e : Ent) (l : List Int) : e ∈ L → PathIs r L e.p l → PathIs r L e.n (l ++ [e.n])
/-- Two lists of the same blocks: only what is in the tree may differ. -/
def twin (L M : List Ent) : Prop := L.map (fun e => (e.n, e.b)) = M.map (fun e => (e.n, e.b))
/-- The numbers are one alone, and none is the root's. -/
def OneN (r : Int) (L : List Ent) : Prop := (L.map (·.n)).Nodup ∧ ∀ e ∈ L, e.n ≠ r
/-- In the tree is just what hangs at the root. -/
def InOk (r : Int) (L : List Ent) : Prop := ∀ e ∈ L, e.isin = true ↔ Hang r L e.n
def hasV (r : Int) (L : List Ent) (n : Int) : Prop := n = r ∨ ∃ e ∈ L, e.n = n ∧ e.isin = true

theorem Hang.mono {r : Int} {L M : List Ent} (h : ∀ e ∈ L, ∃ f ∈ M, f.n = e.n ∧ f.p = e.p) {n : Int} (hn : Hang r L n) : Hang r M n := by
  induction hn with
  | root => exact .root
  | up e he _ ih =>
    obtain ⟨f, hf, h1, h2⟩ := h e he
    rw [← h1]
    exact .up f hf (by rw [h2]; exact ih)
theorem twin_mem {L M : List Ent} (h : twin L M) {e : Ent} (he : e ∈ L) : ∃ f ∈ M, f.n = e.n ∧ f.b = e.b := by
  have h1 : (e.n, e.b) ∈ L.map (fun e => (e.n, e.b)) := List.mem_map.2 ⟨e, he, rfl⟩
  rw [h] at h1
  obtain ⟨f, hf, e2⟩ := List.mem_map.1 h1
  injection e2 with a b
  exact ⟨f, hf, a, b⟩
theorem twin.symm {L M : List Ent} (h : twin L M) : twin M L := Eq.symm h
theorem twin.trans {L M K : List Ent} (h : twin L M) (g : twin M K) : twin L K := Eq.trans h g
theorem twin.refl (L : List Ent) : twin L L := rfl
theorem twin.hang {r : Int} {L M : List Ent} (h : twin L M) {n : Int} : Hang r L n ↔ Hang r M n :=
  ⟨fun g => g.mono fun e he => by obtain ⟨f, hf, a, d⟩ := twin_mem h he; exact ⟨f, hf, a, congrArg Bl.p d⟩,
   fun g => g.mono fun e he => by obtain ⟨f, hf, a, d⟩ := twin_mem h.symm he; exact ⟨f, hf, a, congrArg Bl.p d⟩⟩
theorem twin.one {r : Int} {L M : List Ent} (h : twin L M) (g : OneN r L) : OneN r M := by
  refine ⟨?_, fun e he => ?_⟩
  · have e1 : L.map (·.n) = M.map (·.n) := by
      have := congrArg (List.map Prod.fst) h
      simpa [List.map_map, Function.comp_def] using this
    rw [← e1]; exact g.1
  · obtain ⟨f, hf, a, _⟩ := twin_mem h.symm he
    rw [← a]; exact g.2 f hf
theorem one_eq {L : List Ent} (h : (L.map (·.n)).Nodup) {e f : Ent} (he : e ∈ L) (hf : f ∈ L) (hn : e.n = f.n) : e = f := by
  induction L with
  | nil => cases he
  | cons x L ih =>
    rw [List.map_cons, List.nodup_cons] at h
    rcases List.mem_cons.1 he with he1 | he1
    · rcases List.mem_cons.1 hf with hf1 | hf1
      · rw [he1, hf1]
      · exact absurd (List.mem_map.2 ⟨f, hf1, by rw [← hn, he1]⟩) h.1
    · rcases List.mem_cons.1 hf with hf1 | hf1
      · exact absurd (List.mem_map.2 ⟨e, he1, by rw [hn, hf1]⟩) h.1
      · exact ih h.2 he1 hf1
/-- What came to an end: whatever comes in hangs at the root, and nothing is left that could: it is just what hangs there. -/
theorem in_ok {r : Int} {L : List Ent} (h1 : OneN r L) (h2 : ∀ e ∈ L, e.isin = true → Hang r L e.n) (h3 : ∀ e ∈ L, e.isin = false → ¬ hasV r L e.p) : InOk r L := by
  have key : ∀ {n : Int}, Hang r L n → hasV r L n := fun {n} hn => by
    induction hn with
    | root => exact .inl rfl
    | up e he _ ih =>
      cases hi : e.isin with
      | true => exact .inr ⟨e, he, rfl, hi⟩
      | false => exact absurd ih (h3 e he hi)
  refine fun e he => ⟨h2 e he, fun hh => ?_⟩
  rcases key hh with h | ⟨f, hf, hn, hi⟩
  · exact absurd h (h1.2 e he)
  · rw [← one_eq h1.1 hf he hn]; exact hi
/-- Whether it is there, by what hangs. -/
theorem has_hang {r : Int} {L : List Ent} (h : InOk r L) {n : Int} : hasV r L n ↔ Hang r L n := by
  constructor
  · rintro (rfl | ⟨e, he, rfl, hi⟩)
    · exact .root
    · exact (h e he).1 hi
  · intro hh
    cases hh with
    | root => exact .inl rfl
    | up e he hp => exact .inr ⟨e, he, rfl, (h e he).2 (.up e he hp)⟩
/-- An orphan more: nothing comes in. -/
theorem orphan_ok {r : Int} {L : List Ent} {x : Ent} (h : InOk r L) (h1 : OneN r (L ++ [x])) (hx : x.isin = false) (hp : ¬ hasV r L x.p) : InOk r (L ++ [x]) := by
  have back : ∀ {n : Int}, Hang r (L ++ [x]) n → Hang r L n := fun {n} hn => by
    induction hn with
    | root => exact .root
    | up e he _ ih =>
      rcases List.mem_append.1 he with he | he
      · exact .up e he ih
      · obtain rfl : e = x := by simpa using he
        exact absurd ((has_hang h).2 ih) hp
  have on : ∀ {n : Int}, Hang r L n → Hang r (L ++ [x]) n := fun g => g.mono fun e he => ⟨e, List.mem_append_left _ he, rfl, rfl⟩
  intro e he
  rcases List.mem_append.1 he with he1 | he1
  · rw [h e he1]; exact ⟨on, back⟩
  · obtain rfl : e = x := by simpa using he1
    rw [hx]
    refine ⟨fun c => (nomatch c), fun c => ?_⟩
    have := back c
    have hn : e.n ∉ L.map (·.n) := fun hm => by
      have := h1.1
      rw [List.map_append, List.nodup_append] at this
      exact this.2.2 _ hm _ (by simp) rfl
    generalize hq : e.n = q at this
    cases this with
    | root => exact absurd hq (h1.2 e (by simp))
    | up f hf _ => exact absurd (List.mem_map.2 ⟨f, hf, hq.symm⟩) hn

/-! Paths. -/
theorem path_hang {r : Int} {L : List Ent} {n : Int} {l : List Int} (h : PathIs r L n l) : Hang r L n := by
  induction h with
  | root => exact .root
  | up e l he _ ih => exact .up e he ih
theorem hang_path {r : Int} {L : List Ent} {n : Int} (h : Hang r L n) : ∃ l, PathIs r L n l := by
  induction h with
  | root => exact ⟨[], .root⟩
  | up e he _ ih => obtain ⟨l, hl⟩ := ih; exact ⟨l ++ [e.n], .up e l he hl⟩
theorem path_one {r : Int} {L : List Ent} (h1 : OneN r L) {n : Int} {l m : List Int} (h : PathIs r L n l) (g : PathIs r L n m) : l = m := by
  induction h generalizing m with
  | root =>
    generalize hq : r = q at g
    cases g with
    | root => rfl
    | up f k hf _ => exact absurd hq.symm (h1.2 f hf)
  | up e l he _ ih =>
    generalize hq : e.n = q at g
    cases g with
    | root => exact absurd hq (h1.2 e he)
    | up f k hf hk =>
      have : e = f := one_eq h1.1 he hf hq
      subst this
      rw [ih hk]
theorem path_last {r : Int} {L : List Ent} {n : Int} {l : List Int} (h : PathIs r L n l) (hn : n ≠ r) : ∃ k, l = k ++ [n] := by
  cases h with
  | root => exact absurd rfl hn
  | up e k _ _ => exact ⟨k, rfl⟩
theorem path_mem {r : Int} {L : List Ent} {n : Int} {l : List Int} (h : PathIs r L n l) {k : Int} (hk : k ∈ l) : ∃ e ∈ L, e.n = k ∧ Hang r L k := by
  induction h with
  | root => cases hk
  | up e l he hp ih =>
    rcases List.mem_append.1 hk with hk | hk
    · exact ih hk
    · obtain rfl : k = e.n := by simpa using hk
      exact ⟨e, he, rfl, .up e he (path_hang hp)⟩
theorem twin.path {r : Int} {L M : List Ent} (h : twin L M) {n : Int} {l : List Int} (g : PathIs r L n l) : PathIs r M n l := by
  induction g with
  | root => exact .root
  | up e l he _ ih =>
    obtain ⟨f, hf, a, d⟩ := twin_mem h he
    rw [← a]
    exact .up f l hf (by rw [show f.p = e.p from congrArg Bl.p d]; exact ih)
/-- What stays behind a pruning: what hangs at the new root, and orphans above its Round. -/
def staysV (r : Int) (L : List Ent) (x : Ent) (e : Ent) : Prop :=
  (e.isin = false ∧ x.rd < e.rd) ∨ (e.isin = true ∧ e.n ≠ x.n ∧ ∃ l, PathIs r L e.n l ∧ x.n ∈ l)
/-- Two of the same blocks, each with just what hangs in the tree, are one. -/
theorem twin_eq {r : Int} {L M : List Ent} (h : twin L M) (hl : InOk r L) (hm : InOk r M) : L = M := by
  have gen : ∀ {A B : List Ent}, twin A B → (∀ e ∈ A, e.isin = true ↔ Hang r L e.n) → (∀ e ∈ B, e.isin = true ↔ Hang r L e.n) → A = B := fun {A} => by
    induction A with
    | nil =>
      intro B t _ _
      cases B with
      | nil => rfl
      | cons y B => exact absurd t (by simp [twin])
    | cons x A ih =>
      intro B t ha hb
      cases B with
      | nil => exact absurd t (by simp [twin])
      | cons y B =>
        unfold twin at t
        rw [List.map_cons, List.map_cons] at t
        injection t with t1 t2
        injection t1 with a b
        have hx := ha x List.mem_cons_self
        have hy := hb y List.mem_cons_self
        have hi : x.isin = y.isin := by
          rw [Bool.eq_iff_iff, hx, hy, a]
        have hxy : x = y := by
          cases x; cases y
          simp only at a b hi
          subst a b hi
          rfl
        rw [hxy, ih t2 (fun e he => ha e (List.mem_cons_of_mem _ he)) (fun e he => hb e (List.mem_cons_of_mem _ he))]
  exact gen h hl (fun e he => by rw [hm e he]; exact h.symm.hang)
/-- A path up to one of its own numbers. -/
theorem path_cut {r : Int} {L : List Ent} {n : Int} {l : List Int} (h : PathIs r L n l) {k : Int} (hk : k ∈ l) : ∃ a b, l = a ++ k :: b ∧ PathIs r L k (a ++ [k]) := by
  induction h with
  | root => cases hk
  | up e l he hp ih =>
    by_cases c : k ∈ l
    · obtain ⟨a, b, h1, h2⟩ := ih c
      exact ⟨a, b ++ [e.n], by rw [h1]; simp, h2⟩
    · obtain rfl : k = e.n := by
        rcases List.mem_append.1 hk with h1 | h1
        · exact absurd h1 c
        · simpa using h1
      exact ⟨l, [], rfl, .up e l he hp⟩
/-- No number stands twice on a path. -/
theorem path_apart {r : Int} {L : List Ent} (h1 : OneN r L) {e : Ent} {l : List Int} (he : e ∈ L) (hp : PathIs r L e.p l) : e.n ∉ l := fun hm => by
  obtain ⟨a, b, h2, h3⟩ := path_cut hp hm
  have h4 := path_one h1 h3 (.up e l he hp)
  have := congrArg List.length h4
  rw [h2] at this
  simp at this
/-- Behind a pruning: what hung at the new root hangs at it, by the rest of its path. -/
theorem prune_path {r : Int} {L M : List Ent} {x : Ent} (h1 : OneN r L) (h0 : InOk r L) (hm : ∀ e, e ∈ M ↔ e ∈ L ∧ staysV r L x e) {n : Int} {l : List Int} (h : PathIs r L n l) (hk : x.n ∈ l) : ∃ a b, l = a ++ x.n :: b ∧ x.n ∉ a ∧ PathIs x.n M n b := by
  induction h with
  | root => cases hk
  | up e l he hp ih =>
    have hap := path_apart h1 he hp
    by_cases c : x.n ∈ l
    · obtain ⟨a, b, h2, h3, h4⟩ := ih c
      have hne : e.n ≠ x.n := fun q => hap (by rw [q]; exact c)
      have hpe : PathIs r L e.n (l ++ [e.n]) := .up e l he hp
      have hst : staysV r L x e := .inr ⟨(h0 e he).2 (path_hang hpe), hne, _, hpe, List.mem_append_left _ c⟩
      exact ⟨a, b ++ [e.n], by rw [h2]; simp, h3, .up e b ((hm e).2 ⟨he, hst⟩) h4⟩
    · have q : x.n = e.n := by
        rcases List.mem_append.1 hk with g | g
        · exact absurd g c
        · simpa using g
      refine ⟨l, [], by rw [q], by rw [q]; exact hap, ?_⟩
      rw [← q]; exact .root
theorem prune_back {r : Int} {L M : List Ent} {x : Ent} (hx : Hang r L x.n) (hm : ∀ e, e ∈ M ↔ e ∈ L ∧ staysV r L x e) {n : Int} (h : Hang x.n M n) : Hang r L n := by
  induction h with
  | root => exact hx
  | up e he _ ih => exact .up e ((hm e).1 he).1 ih
theorem prune_ok {r : Int} {L M : List Ent} {x : Ent} (h1 : OneN r L) (h0 : InOk r L) (hx : x ∈ L) (hi : x.isin = true) (hm : ∀ e, e ∈ M ↔ e ∈ L ∧ staysV r L x e) (hsub : M.Sublist L) : OneN x.n M ∧ InOk x.n M := by
  have hxh := (h0 x hx).1 hi
  refine ⟨⟨List.Nodup.sublist (hsub.map _) h1.1, fun e he => ?_⟩, fun e he => ?_⟩
  · obtain ⟨hl, hs⟩ := (hm e).1 he
    rcases hs with ⟨ho, _⟩ | ⟨_, hne, _⟩
    · intro q
      rw [one_eq h1.1 hl hx q, hi] at ho
      cases ho
    · exact hne
  · obtain ⟨hl, hs⟩ := (hm e).1 he
    constructor
    · intro hin
      rcases hs with ⟨ho, _⟩ | ⟨_, _, l, hp, hk⟩
      · rw [hin] at ho; cases ho
      · obtain ⟨_, b, _, _, h4⟩ := prune_path h1 h0 hm hp hk
        exact path_hang h4
    · intro hh
      exact (h0 e hl).2 (prune_back hxh hm hh)
/-- What is missing: parents of orphans that are in no list. -/
def Miss (L : List Ent) (k : Int) : Prop := ∃ e ∈ L, e.isin = false ∧ e.p = k ∧ ∀ f ∈ L, f.n ≠ k
/-- A number more in a rising list, once. -/
def insU (p : Int) (l : List Int) : List Int := l.filter (· < p) ++ p :: l.filter (p < ·)
theorem insU_mem {p : Int} {l : List Int} {k : Int} : k ∈ insU p l ↔ k = p ∨ k ∈ l := by
  unfold insU
  simp only [List.mem_append, List.mem_cons, List.mem_filter, decide_eq_true_eq]
  constructor
  · rintro (h | h | h)
    · exact .inr h.1
    · exact .inl h
    · exact .inr h.1
  · rintro (h | h)
    · exact .inr (.inl h)
    · by_cases c : k < p
      · exact .inl ⟨h, c⟩
      · by_cases d : k = p
        · exact .inr (.inl d)
        · exact .inr (.inr ⟨h, by omega⟩)
theorem insU_rising {p : Int} {l : List Int} (h : l.Pairwise (· < ·)) : (insU p l).Pairwise (· < ·) := by
  unfold insU
  rw [List.pairwise_append, List.pairwise_cons]
  refine ⟨h.filter _, ⟨fun a ha => by simpa using (List.mem_filter.1 ha).2, h.filter _⟩, fun a ha b hb => ?_⟩
  have ha2 : a < p := by simpa using (List.mem_filter.1 ha).2
  rcases List.mem_cons.1 hb with hb | hb
  · omega
  · have hb2 : p < b := by simpa using (List.mem_filter.1 hb).2
    omega
/-- Two rising lists of the same numbers are one. -/
theorem rising_eq : ∀ {l m : List Int}, l.Pairwise (· < ·) → m.Pairwise (· < ·) → (∀ k, k ∈ l ↔ k ∈ m) → l = m
  | [], [], _, _, _ => rfl
  | [], y :: m, _, _, h => absurd ((h y).2 List.mem_cons_self) (by simp)
  | x :: l, [], _, _, h => absurd ((h x).1 List.mem_cons_self) (by simp)
  | x :: l, y :: m, hl, hm, h => by
    rw [List.pairwise_cons] at hl hm
    have hxy : x = y := by
      rcases List.mem_cons.1 ((h x).1 List.mem_cons_self) with e | e
      · exact e
      · rcases List.mem_cons.1 ((h y).2 List.mem_cons_self) with g | g
        · exact g.symm
        · have := hm.1 x e; have := hl.1 y g; omega
    subst hxy
    rw [rising_eq hl.2 hm.2 fun k => ?_]
    constructor
    · intro hk
      rcases List.mem_cons.1 ((h k).1 (List.mem_cons_of_mem _ hk)) with e | e
      · have := hl.1 k hk; omega
      · exact e
    · intro hk
      rcases List.mem_cons.1 ((h k).2 (List.mem_cons_of_mem _ hk)) with e | e
      · have := hm.1 k hk; omega
      · exact e
/-! What a tree is, and what a call makes of it. -/
open Classical in
/-- The same blocks; in the tree is just what hangs at the root. -/
noncomputable def settle (r : Int) (L : List Ent) : List Ent := L.map fun e => { e with isin := decide (Hang r L e.n) }
theorem settle_twin (r : Int) (L : List Ent) : twin (settle r L) L := by
  unfold twin settle
  rw [List.map_map]
  rfl
theorem settle_ok (r : Int) (L : List Ent) : InOk r (settle r L) := fun e he => by
  obtain ⟨f, hf, rfl⟩ := List.mem_map.1 he
  rw [(settle_twin r L).hang]
  simp
theorem settle_is {r : Int} {L M : List Ent} (h : twin M L) (hm : InOk r M) : M = settle r L := twin_eq (h.trans (settle_twin r L).symm) hm (settle_ok r L)
theorem settle_len (r : Int) (L : List Ent) : (settle r L).length = L.length := by unfold settle; simp
theorem twin.len {L M : List Ent} (h : twin L M) : L.length = M.length := by simpa using congrArg List.length h
/-- How many are orphans. -/
def orph (L : List Ent) : Nat := (L.filter (fun e => !e.isin)).length
/-- A tree as a value. -/
structure TS where
  most : Int
  root : Int
  round : Int
  L : List Ent
/-- A number of a kind that Go's int has. -/
def inI (n : Int) : Prop := -9223372036854775808 ≤ n ∧ n ≤ 9223372036854775807
structure Bl.wf (b : Bl) : Prop where
  v : inI b.v
  rd : inI b.rd
  p : inI b.p
  pr : inI b.pr
structure TS.wf (s : TS) : Prop where
  one : OneN s.root s.L
  ok : InOk s.root s.L
  n : ∀ e ∈ s.L, inI e.n
  b : ∀ e ∈ s.L, e.b.wf
  root : inI s.root
  round : inI s.round
  most : inI s.most
/-- Is it there at all? -/
def known (L : List Ent) (n : Int) : Prop := ∃ e ∈ L, e.n = n
instance (L : List Ent) (n : Int) : Decidable (known L n) := by unfold known; infer_instance
instance (r : Int) (L : List Ent) (n : Int) : Decidable (hasV r L n) := by unfold hasV; infer_instance
/-- Put's error. -/
def putE (s : TS) (n : Int) (b : Bl) : Int :=
  if n < 1 then 1 else if n = s.root ∨ known s.L n then 100 else if b.rd ≤ s.round then 151 else if hasV s.root s.L b.p then 0 else if s.most ≤ orph s.L then 101 else 150
/-- What Put leaves. -/
noncomputable def putS (s : TS) (n : Int) (b : Bl) : TS :=
  if putE s n b = 0 then { s with L := settle s.root (s.L ++ [⟨n, b, true⟩]) } else if putE s n b = 150 then { s with L := s.L ++ [⟨n, b, false⟩] } else s
theorem twin.inOne {L M : List Ent} (h : twin L M) {e : Ent} (he : e ∈ M) : ∃ f ∈ L, f.n = e.n ∧ f.b = e.b := twin_mem h.symm he
theorem one_snoc {r : Int} {L : List Ent} {x : Ent} (h : OneN r L) (h1 : x.n ≠ r) (h2 : ¬ known L x.n) : OneN r (L ++ [x]) := by
  refine ⟨?_, fun e he => ?_⟩
  · rw [List.map_append, List.nodup_append]
    refine ⟨h.1, by simp, fun a ha b hb => ?_⟩
    obtain rfl : b = x.n := by simpa using hb
    rintro rfl
    obtain ⟨e, he, hn⟩ := List.mem_map.1 ha
    exact h2 ⟨e, he, hn⟩
  · rcases List.mem_append.1 he with he | he
    · exact h.2 e he
    · obtain rfl : e = x := by simpa using he
      exact h1
theorem putS_wf {s : TS} {n : Int} {b : Bl} (h : s.wf) (hn : inI n) (hb : b.wf) : (putS s n b).wf := by
  have hone : putE s n b = 0 ∨ putE s n b = 150 → n ≠ s.root ∧ ¬ known s.L n := fun he => by
    unfold putE at he
    split at he
    · rcases he with he | he <;> simp at he
    · split at he
      · rcases he with he | he <;> simp at he
      · next hc => exact ⟨fun q => hc (.inl q), fun q => hc (.inr q)⟩
  unfold putS
  split
  · next he =>
    obtain ⟨h1, h2⟩ := hone (.inl he)
    have hs := settle_twin s.root (s.L ++ [⟨n, b, true⟩])
    have ho : OneN s.root (s.L ++ [⟨n, b, true⟩]) := one_snoc h.one h1 h2
    refine ⟨hs.symm.one ho, settle_ok _ _, fun e he => ?_, fun e he => ?_, h.root, h.round, h.most⟩
    all_goals
      obtain ⟨f, hf, e1, e2⟩ := twin_mem hs he
      first | rw [← e1] | rw [← e2]
      rcases List.mem_append.1 hf with hf | hf
      · first | exact h.n f hf | exact h.b f hf
      · obtain rfl : f = ⟨n, b, true⟩ := by simpa using hf
        first | exact hn | exact hb
  · split
    · next he0 he =>
      obtain ⟨h1, h2⟩ := hone (.inr he)
      have ho : OneN s.root (s.L ++ [⟨n, b, false⟩]) := one_snoc h.one h1 h2
      refine ⟨ho, orphan_ok h.ok ho rfl (fun hv => ?_), fun e he => ?_, fun e he => ?_, h.root, h.round, h.most⟩
      · unfold putE at he
        split at he
        · simp at he
        · split at he
          · simp at he
          · split at he
            · simp at he
            · simp at he
      all_goals
        rcases List.mem_append.1 he with hf | hf
        · first | exact h.n e hf | exact h.b e hf
        · obtain rfl : e = ⟨n, b, false⟩ := by simpa using hf
          first | exact hn | exact hb
    · exact h

/-! Orphans come in, one by one. -/
def ins (L : List Ent) (k : Int) : Prop := ∃ e ∈ L, e.n = k ∧ e.isin = true
/-- What the closure does at n: the same blocks; whoever is in stays; who comes in hangs at the root; no orphan is left that hangs at n, or at one that came in. -/
structure Took (r n : Int) (L M : List Ent) : Prop where
  twin : twin L M
  mono : ∀ k, ins L k → ins M k
  hang : ∀ k, ins M k → ins L k ∨ Hang r L k
  left : ∀ e ∈ M, e.isin = false → e.p ≠ n ∧ ∀ k, ins M k → ¬ ins L k → e.p ≠ k
/-- .. where some orphans are still to be looked at. -/
structure Taking (r n : Int) (ks : List Int) (L M : List Ent) : Prop where
  twin : twin L M
  mono : ∀ k, ins L k → ins M k
  hang : ∀ k, ins M k → ins L k ∨ Hang r L k
  left : ∀ e ∈ M, e.isin = false → (e.p = n → e.n ∈ ks) ∧ ∀ k, ins M k → ¬ ins L k → e.p ≠ k
theorem Taking.start {r n : Int} {ks : List Int} {L : List Ent} (h : ∀ e ∈ L, e.isin = false → e.n ∈ ks) : Taking r n ks L L :=
  ⟨rfl, fun _ h => h, fun _ h => .inl h, fun e he hi => ⟨fun _ => h e he hi, fun k h1 h2 => absurd h1 h2⟩⟩
theorem Taking.done {r n : Int} {L M : List Ent} (h : Taking r n [] L M) : Took r n L M :=
  ⟨h.twin, h.mono, h.hang, fun e he hi => ⟨fun hp => (List.not_mem_nil ((h.left e he hi).1 hp)), (h.left e he hi).2⟩⟩
/-- The next one is no orphan any more, or hangs elsewhere. -/
theorem Taking.pass {r n k : Int} {ks : List Int} {L M : List Ent} (h : Taking r n (k :: ks) L M) (hk : ∀ e ∈ M, e.n = k → e.isin = false → e.p ≠ n) : Taking r n ks L M :=
  ⟨h.twin, h.mono, h.hang, fun e he hi => ⟨fun hp => by
    rcases List.mem_cons.1 ((h.left e he hi).1 hp) with hh | hh
    · exact absurd hp (hk e he hh hi)
    · exact hh, (h.left e he hi).2⟩⟩
/-- One of them comes in. -/
def setIn (k : Int) (L : List Ent) : List Ent := L.map fun e => if e.n = k then { e with isin := true } else e
theorem setIn_twin (k : Int) (L : List Ent) : twin L (setIn k L) := by
  unfold _root_.Go.Proofs.Ytgclofemhhhepaa.twin setIn
  rw [List.map_map]
  refine List.map_congr_left fun e _ => ?_
  simp only [Function.comp]
  split <;> rfl
theorem setIn_mem {k : Int} {L : List Ent} {e : Ent} (h : e ∈ setIn k L) : (∃ f ∈ L, f.n = k ∧ e = { f with isin := true }) ∨ (e ∈ L ∧ e.n ≠ k) := by
  obtain ⟨f, hf, rfl⟩ := List.mem_map.1 h
  by_cases c : f.n = k
  · rw [if_pos c]; exact .inl ⟨f, hf, c, rfl⟩
  · rw [if_neg c]; exact .inr ⟨hf, c⟩
theorem setIn_ins {k : Int} {L : List Ent} (hk : known L k) {j : Int} : ins (setIn k L) j ↔ j = k ∨ ins L j := by
  constructor
  · rintro ⟨e, he, rfl, hi⟩
    rcases setIn_mem he with ⟨f, hf, h1, rfl⟩ | ⟨h1, h2⟩
    · exact .inl h1
    · exact .inr ⟨e, h1, rfl, hi⟩
  · rintro (rfl | ⟨e, he, rfl, hi⟩)
    · obtain ⟨e, he, rfl⟩ := hk
      exact ⟨{ e with isin := true }, List.mem_map.2 ⟨e, he, if_pos rfl⟩, rfl, rfl⟩
    · by_cases c : e.n = k
      · exact ⟨{ e with isin := true }, List.mem_map.2 ⟨e, he, if_pos c⟩, rfl, rfl⟩
      · exact ⟨e, List.mem_map.2 ⟨e, he, if_neg c⟩, rfl, hi⟩
theorem setIn_orph {k : Int} : ∀ {L : List Ent}, (L.map (·.n)).Nodup → ∀ {e : Ent}, e ∈ L → e.n = k → e.isin = false → orph (setIn k L) < orph L
  | x :: L, h1, e, he, hn, hi => by
    have hnd := List.nodup_cons.1 (show (x.n :: L.map (·.n)).Nodup from h1)
    rcases List.mem_cons.1 he with rfl | he
    · have hs : setIn k L = L := by
        unfold setIn
        refine (List.map_congr_left fun f hf => ?_).trans (List.map_id' L)
        rw [if_neg]
        rintro e1
        exact hnd.1 (List.mem_map.2 ⟨f, hf, by rw [e1, hn]⟩)
      show ((setIn k (e :: L)).filter _).length < _
      rw [show setIn k (e :: L) = { e with isin := true } :: setIn k L by unfold setIn; rw [List.map_cons, if_pos hn], hs]
      unfold orph
      rw [List.filter_cons_of_neg (by simp), List.filter_cons_of_pos (by simp [hi])]
      simp
    · have ih := setIn_orph hnd.2 he hn hi
      have hx : x.n ≠ k := by
        rintro e1
        exact hnd.1 (List.mem_map.2 ⟨e, he, by rw [hn, e1]⟩)
      rw [show setIn k (x :: L) = x :: setIn k L by unfold setIn; rw [List.map_cons, if_neg hx]]
      unfold orph at ih ⊢
      by_cases c : x.isin = true
      · rw [List.filter_cons_of_neg (by simp [c]), List.filter_cons_of_neg (by simp [c])]; exact ih
      · rw [List.filter_cons_of_pos (by simp [c]), List.filter_cons_of_pos (by simp [c])]; simpa using ih
theorem twin.known {L M : List Ent} (h : twin L M) {n : Int} (hk : known L n) : known M n := by
  obtain ⟨e, he, rfl⟩ := hk
  obtain ⟨f, hf, a, _⟩ := twin_mem h he
  exact ⟨f, hf, a⟩
/-- .. and with it what hangs at it. -/
theorem Taking.step {r n k : Int} {ks : List Int} {L M K : List Ent} (h1 : OneN r L) (hn : Hang r L n) (h : Taking r n (k :: ks) L M) {e : Ent} (he : e ∈ M) (hek : e.n = k) (hi : e.isin = false) (hp : e.p = n) (ht : Took r k (setIn k M) K) :
    Taking r n ks L K ∧ Hang r (setIn k M) k := by
  have hkn : known M k := ⟨e, he, hek⟩
  have tw : _root_.Go.Proofs.Ytgclofemhhhepaa.twin L (setIn k M) := h.twin.trans (setIn_twin k M)
  have hang : Hang r M k := by
    rw [← hek]
    exact .up e he (by rw [hp]; exact h.twin.hang.1 hn)
  have hangL : Hang r L k := h.twin.hang.2 hang
  have oneM := h.twin.one h1
  refine ⟨⟨tw.trans ht.twin, fun j hj => ht.mono j ((setIn_ins hkn).2 (.inr (h.mono j hj))), fun j hj => ?_, fun f hf hfi => ?_⟩, (setIn_twin k M).hang.1 hang⟩
  · rcases ht.hang j hj with hj | hj
    · rcases (setIn_ins hkn).1 hj with rfl | hj
      · exact .inr hangL
      · exact h.hang j hj
    · exact .inr (tw.hang.2 hj)
  · obtain ⟨h3, h4⟩ := ht.left f hf hfi
    -- it was an orphan in M too
    obtain ⟨g, hg, gn, gb⟩ := twin_mem ((setIn_twin k M).trans ht.twin).symm hf
    have gi : g.isin = false := by
      cases hgi : g.isin with
      | false => rfl
      | true =>
        exfalso
        obtain ⟨f', hf', fn', fi'⟩ := ht.mono g.n ((setIn_ins hkn).2 (.inr ⟨g, hg, rfl, hgi⟩))
        have oneK := ((tw.trans ht.twin).one h1)
        have := one_eq oneK.1 hf' hf (by rw [fn', gn])
        rw [this, hfi] at fi'
        cases fi'
    obtain ⟨h5, h6⟩ := h.left g hg gi
    have gp : g.p = f.p := congrArg Bl.p gb
    refine ⟨fun hpn => ?_, fun j hj hnj => ?_⟩
    · rcases List.mem_cons.1 (h5 (by rw [gp]; exact hpn)) with hh | hh
      · exfalso
        have : g = e := one_eq oneM.1 hg he (by rw [hh, hek])
        obtain ⟨f', hf', fn', fi'⟩ := ht.mono k ((setIn_ins hkn).2 (.inl rfl))
        have oneK := ((tw.trans ht.twin).one h1)
        have := one_eq oneK.1 hf' hf (by rw [fn', ← gn, hh])
        rw [this, hfi] at fi'
        cases fi'
      · rw [← gn]; exact hh
    · by_cases c : ins (setIn k M) j
      · rcases (setIn_ins hkn).1 c with rfl | c
        · exact h3
        · rw [← gp]; exact h6 j c hnj
      · exact h4 j hj c
/-- A block that came with its parent in the tree: what the closure leaves is settled. -/
theorem Took.settled {r : Int} {L M : List Ent} {x : Ent} (h : InOk r L) (ho : OneN r (L ++ [x])) (hx : x.isin = true) (hp : hasV r L x.p) (h1 : OneN r L) (h3 : ∀ e ∈ L, e.isin = false → ¬ hasV r L e.p) (ht : Took r x.n (L ++ [x]) M) : M = settle r (L ++ [x]) := by
  have hX : Hang r (L ++ [x]) x.n := .up x (by simp) (((has_hang h).1 hp).mono fun e he => ⟨e, List.mem_append_left _ he, rfl, rfl⟩)
  have oneM := ht.twin.one ho
  refine settle_is ht.twin.symm (in_ok oneM (fun e he hi => ?_) fun e he hi hv => ?_)
  · rw [← ht.twin.hang]
    rcases ht.hang e.n ⟨e, he, rfl, hi⟩ with ⟨f, hf, hn, hfi⟩ | hh
    · rcases List.mem_append.1 hf with hf | hf
      · rw [← hn]
        exact ((h f hf).1 hfi).mono fun g hg => ⟨g, List.mem_append_left _ hg, rfl, rfl⟩
      · obtain rfl : f = x := by simpa using hf
        rw [← hn]; exact hX
    · exact hh
  · obtain ⟨h4, h5⟩ := ht.left e he hi
    -- e was an orphan of L
    obtain ⟨g, hg, gn, gb⟩ := twin_mem ht.twin.symm he
    have gi : g ∈ L ∧ g.isin = false := by
      have hgi : g.isin = false := by
        cases hgi : g.isin with
        | false => rfl
        | true =>
          exfalso
          obtain ⟨f', hf', fn', fi'⟩ := ht.mono g.n ⟨g, hg, rfl, hgi⟩
          have := one_eq oneM.1 hf' he (by rw [fn', gn])
          rw [this, hi] at fi'
          cases fi'
      refine ⟨?_, hgi⟩
      rcases List.mem_append.1 hg with hg | hg
      · exact hg
      · obtain rfl : g = x := by simpa using hg
        rw [hx] at hgi; cases hgi
    have gp : g.p = e.p := congrArg Bl.p gb
    have hno := h3 g gi.1 gi.2
    rw [gp] at hno
    rcases hv with hv | ⟨f, hf, fn, fi⟩
    · exact hno (.inl hv)
    · by_cases c : ins (L ++ [x]) e.p
      · obtain ⟨y, hy, yn, yi⟩ := c
        rcases List.mem_append.1 hy with hy | hy
        · exact hno (.inr ⟨y, hy, yn, yi⟩)
        · obtain rfl : y = x := by simpa using hy
          exact h4 yn.symm
      · exact h5 e.p ⟨f, hf, fn, fi⟩ c rfl
theorem no_in {r : Int} {L : List Ent} (h1 : OneN r L) (h : InOk r L) : ∀ e ∈ L, e.isin = false → ¬ hasV r L e.p := fun e he hi hv => by
  have := (h e he).2 (.up e he ((has_hang h).1 hv))
  rw [hi] at this
  cases this
end Go.Proofs.Ytgclofemhhhepaa
