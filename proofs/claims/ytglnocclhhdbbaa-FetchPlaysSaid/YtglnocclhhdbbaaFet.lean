/-
  Blocks that are asked for, plainly: a rising list of numbers, each with how often it was asked for; whom the k-th time; that everybody else is asked. No program in this text.
-/
import Derived.Lib.Strings
set_option linter.unusedSimpArgs false
set_option linter.unusedVariables false
namespace Go.Proofs.Ytglnocclhhdbbaa

/-- A number that is wanted, and how often it was asked for. -/
structure Wnt where
  n : Int
  t : Int
deriving DecidableEq, Inhabited
/-- A table. -/
structure FS where
  f : Int
  me : Int
  most : Int
  tries : Int
  L : List Wnt
def risingW (L : List Wnt) : Prop := L.Pairwise (fun x y => x.n < y.n)
def wanted (L : List Wnt) (n : Int) : Prop := ∃ x ∈ L, x.n = n
instance (L : List Wnt) (n : Int) : Decidable (wanted L n) := by unfold wanted; infer_instance
def wantE (s : FS) (n : Int) : Int := if n < 1 then 1 else if wanted s.L n then 100 else if s.most ≤ s.L.length then 101 else 0
/-- One more, in its place. -/
def insW (n : Int) (L : List Wnt) : List Wnt := L.filter (fun x => decide (x.n < n)) ++ ⟨n, 0⟩ :: L.filter (fun x => decide (n < x.n))
def wantL (s : FS) (n : Int) : List Wnt := if wantE s n = 0 then insW n s.L else s.L
def gotE (L : List Wnt) (n : Int) : Int := if wanted L n then 0 else 160
def gotL (L : List Wnt) (n : Int) : List Wnt := L.filter (fun x => decide (x.n ≠ n))
/-- Whom the k-th time. -/
def whomV (f me k : Int) : Int := (me + 1 + k % (3 * f)) % (3 * f + 1)
def tickL (tries : Int) (L : List Wnt) : List Wnt := (L.filter (fun x => decide (x.t < tries))).map (fun x => ⟨x.n, x.t + 1⟩)
/-- Who is asked for what. -/
structure Askx where
  n : Int
  to : Int
  t : Int
deriving DecidableEq, Inhabited
def tickA (f me tries : Int) (L : List Wnt) : List Askx := (L.filter (fun x => decide (x.t < tries))).map (fun x => ⟨x.n, whomV f me x.t, x.t⟩)
/-- A table that may be: f from 1 to 3, me a replica, no more than may be, rising, each asked for from 0 to tries times. -/
structure FS.ok (s : FS) : Prop where
  f1 : 1 ≤ s.f
  f2 : s.f ≤ 3
  m1 : 0 ≤ s.me
  m2 : s.me < 3 * s.f + 1
  most1 : 1 ≤ s.most
  most2 : s.most ≤ 16
  tr : 1 ≤ s.tries
  len : (s.L.length : Int) ≤ s.most
  rising : risingW s.L
  t : ∀ x ∈ s.L, 0 ≤ x.t ∧ x.t ≤ s.tries
theorem risingW.filter {L : List Wnt} (h : risingW L) (p : Wnt → Bool) : risingW (L.filter p) := List.Pairwise.filter _ h
theorem insW_mem {n : Int} {L : List Wnt} {x : Wnt} (hx : ¬ wanted L n) : x ∈ insW n L ↔ x = ⟨n, 0⟩ ∨ x ∈ L := by
  unfold insW
  simp only [List.mem_append, List.mem_cons, List.mem_filter, decide_eq_true_eq]
  constructor
  · rintro (h | h | h)
    · exact .inr h.1
    · exact .inl h
    · exact .inr h.1
  · rintro (h | h)
    · exact .inr (.inl h)
    · by_cases c : x.n < n
      · exact .inl ⟨h, c⟩
      · exact .inr (.inr ⟨h, by have : x.n ≠ n := fun e => hx ⟨x, h, e⟩; omega⟩)
theorem insW_rising {n : Int} {L : List Wnt} (h : risingW L) : risingW (insW n L) := by
  unfold insW risingW
  rw [List.pairwise_append, List.pairwise_cons]
  refine ⟨h.filter _, ⟨fun a ha => by simpa using (List.mem_filter.1 ha).2, h.filter _⟩, fun a ha b hb => ?_⟩
  have ha2 : a.n < n := by simpa using (List.mem_filter.1 ha).2
  rcases List.mem_cons.1 hb with hb | hb
  · rw [hb]; exact ha2
  · have hb2 : n < b.n := by simpa using (List.mem_filter.1 hb).2
    omega
theorem insW_len {n : Int} {L : List Wnt} (hx : ¬ wanted L n) : (insW n L).length = L.length + 1 := by
  unfold insW
  rw [List.length_append, List.length_cons]
  have : (L.filter (fun x => decide (x.n < n))).length + (L.filter (fun x => decide (n < x.n))).length = L.length := by
    induction L with
    | nil => rfl
    | cons x L ih =>
      have hx2 : ¬ wanted L n := fun ⟨y, hy, e⟩ => hx ⟨y, List.mem_cons_of_mem _ hy, e⟩
      have ih2 := ih hx2
      have hne : x.n ≠ n := fun e => hx ⟨x, List.mem_cons_self, e⟩
      simp only [List.filter_cons]
      by_cases a : x.n < n
      · have b : ¬ n < x.n := by omega
        simp [a, b]; omega
      · have b : n < x.n := by omega
        simp [a, b]; omega
  omega
theorem wantL_ok {s : FS} (h : s.ok) (n : Int) : ({ s with L := wantL s n } : FS).ok := by
  unfold wantL
  split
  · next he =>
    have hw : ¬ wanted s.L n ∧ ¬ s.most ≤ s.L.length := by
      unfold wantE at he
      split at he
      · cases he
      · split at he
        · cases he
        · next hw =>
          split at he
          · cases he
          · next hl => exact ⟨hw, hl⟩
    refine ⟨h.f1, h.f2, h.m1, h.m2, h.most1, h.most2, h.tr, ?_, insW_rising h.rising, fun x hx => ?_⟩
    · show ((insW n s.L).length : Int) ≤ s.most
      rw [insW_len hw.1]
      have := hw.2
      omega
    · rcases (insW_mem hw.1).1 hx with e | hx
      · subst e
        exact ⟨Int.le_refl 0, by have := h.tr; show (0 : Int) ≤ s.tries; omega⟩
      · exact h.t x hx
  · exact h
theorem gotL_ok {s : FS} (h : s.ok) (n : Int) : ({ s with L := gotL s.L n } : FS).ok := by
  refine ⟨h.f1, h.f2, h.m1, h.m2, h.most1, h.most2, h.tr, ?_, h.rising.filter _, fun x hx => h.t x (List.mem_filter.1 hx).1⟩
  show ((gotL s.L n).length : Int) ≤ s.most
  have := List.length_filter_le (fun x : Wnt => decide (x.n ≠ n)) s.L
  have := h.len
  unfold gotL
  omega
theorem tickL_ok {s : FS} (h : s.ok) : ({ s with L := tickL s.tries s.L } : FS).ok := by
  refine ⟨h.f1, h.f2, h.m1, h.m2, h.most1, h.most2, h.tr, ?_, ?_, fun x hx => ?_⟩
  · show ((tickL s.tries s.L).length : Int) ≤ s.most
    have := List.length_filter_le (fun x : Wnt => decide (x.t < s.tries)) s.L
    have := h.len
    unfold tickL
    rw [List.length_map]
    omega
  · show risingW (tickL s.tries s.L)
    unfold tickL risingW
    rw [List.pairwise_map]
    exact h.rising.filter _
  · obtain ⟨y, hy, e⟩ := List.mem_map.1 (show x ∈ tickL s.tries s.L from hx)
    obtain ⟨h1, h2⟩ := List.mem_filter.1 hy
    have h3 : y.t < s.tries := by simpa using h2
    have := (h.t y h1).1
    subst e
    exact ⟨by show 0 ≤ y.t + 1; omega, by show y.t + 1 ≤ s.tries; omega⟩
theorem clear_ok {s : FS} (h : s.ok) : ({ s with L := [] } : FS).ok :=
  ⟨h.f1, h.f2, h.m1, h.m2, h.most1, h.most2, h.tr, by have := h.most1; show ((0 : Nat) : Int) ≤ s.most; omega, List.Pairwise.nil, fun x hx => nomatch hx⟩
/-- Whom: never oneself, always a replica. -/
theorem whomV_range {f me k : Int} (hf1 : 1 ≤ f) (hf2 : f ≤ 3) (hm1 : 0 ≤ me) (hm2 : me < 3 * f + 1) (hk : 0 ≤ k) : 0 ≤ whomV f me k ∧ whomV f me k < 3 * f + 1 ∧ whomV f me k ≠ me := by
  have h1 := Int.emod_nonneg k (show 3 * f ≠ 0 by omega)
  have h2 := Int.emod_lt_of_pos k (show 0 < 3 * f by omega)
  unfold whomV
  generalize k % (3 * f) = q at h1 h2
  have h3 := Int.emod_nonneg (me + 1 + q) (show 3 * f + 1 ≠ 0 by omega)
  have h4 := Int.emod_lt_of_pos (me + 1 + q) (show 0 < 3 * f + 1 by omega)
  refine ⟨h3, h4, fun e => ?_⟩
  have h5 : (me + 1 + q) % (3 * f + 1) = if me + 1 + q < 3 * f + 1 then me + 1 + q else me + 1 + q - (3 * f + 1) := by
    split
    · exact Int.emod_eq_of_lt (by omega) (by omega)
    · rw [← Int.sub_emod_right]
      exact Int.emod_eq_of_lt (by omega) (by omega)
  rw [h5] at e
  split at e <;> omega
/-! Everybody else, as a set of bits -/
/-- How many of the low k bits are set. -/
def popN : Nat → Nat → Nat
  | 0, _ => 0
  | k + 1, n => n % 2 + popN k (n / 2)
/-- Whom, in whole numbers. -/
def whomN (f me k : Nat) : Nat := (me + 1 + k % (3 * f)) % (3 * f + 1)
/-- Who was asked behind i ticks. -/
def setN (f me : Nat) : Nat → Nat
  | 0 => 0
  | i + 1 => setN f me i ||| 2 ^ whomN f me i
theorem whomN_is (f me k : Nat) : whomV f me k = (whomN f me k : Nat) := by
  unfold whomV whomN
  push_cast
  rfl
theorem setN_lt (f me : Nat) (hf : f ≤ 3) : ∀ i, setN f me i < 1024
  | 0 => by show 0 < 1024; omega
  | i + 1 => by
    have h1 := setN_lt f me hf i
    have h2 : whomN f me i < 10 := by
      unfold whomN
      have := Nat.mod_lt (me + 1 + i % (3 * f)) (show 0 < 3 * f + 1 by omega)
      omega
    have h3 : 2 ^ whomN f me i < 2 ^ 10 := Nat.pow_lt_pow_right (by decide) h2
    exact Nat.or_lt_two_pow (n := 10) h1 h3
def allB : Bool := (List.range 4).all fun f => (List.range 10).all fun me => (List.range 40).all fun i => !(decide (1 ≤ f ∧ me < 3 * f + 1 ∧ 3 * f ≤ i + 1)) || decide (popN 32 (setN f me (i + 1)) = 3 * f)
set_option maxRecDepth 100000 in
theorem allB_is : allB = true := by decide +kernel
/-- Behind 3F ticks everybody else was asked. -/
theorem all_asked {f me i : Nat} (h1 : 1 ≤ f) (h2 : f ≤ 3) (h3 : me < 3 * f + 1) (h4 : i < 40) (h5 : 3 * f ≤ i + 1) : popN 32 (setN f me (i + 1)) = 3 * f := by
  have h := allB_is
  unfold allB at h
  have hf := List.all_eq_true.1 h f (List.mem_range.2 (by omega))
  have hm := List.all_eq_true.1 hf me (List.mem_range.2 (by omega))
  have hi := List.all_eq_true.1 hm i (List.mem_range.2 h4)
  simp only [Bool.or_eq_true, Bool.not_eq_true', decide_eq_false_iff_not, decide_eq_true_eq] at hi
  rcases hi with hi | hi
  · exact absurd ⟨h1, h3, h5⟩ hi
  · exact hi
end Go.Proofs.Ytglnocclhhdbbaa
