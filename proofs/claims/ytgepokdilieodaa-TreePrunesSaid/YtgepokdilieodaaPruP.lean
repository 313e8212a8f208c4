/-
  A tree that grows by numbers, its orphans none, and what a pruning leaves of it. No program in this text.
-/
import Derived.Test.YtgepokdilieodaaOrdP
import Derived.Test.YtgepokdilieodaaAbvP
set_option linter.unusedSimpArgs false
set_option linter.unusedVariables false
namespace Go.Proofs.Ytgepokdilieodaa

/-- A block whose parent's Round is left out. -/
def nzB (b : Bl) : Bl := { b with pr := 0 }
def growP (P : List UInt8) : List Bl := (growB P).map nzB
theorem growP_snoc (P : List UInt8) (c : UInt8) : growP (P ++ [c]) = growP P ++ [nzB (mkB (growB P) c)] := by unfold growP; rw [growB_snoc, List.map_append]; rfl
theorem growP_len (P : List UInt8) : (growP P).length = P.length := by unfold growP; rw [List.length_map, growB_len]
theorem GoodB.nz {Bs : List Bl} (h : GoodB Bs) : GoodB (Bs.map nzB) := by
  refine ⟨fun j hj => ?_, fun j hj => ?_, fun j hj => ?_⟩
  · have hj' : j < Bs.length := by simpa using hj
    obtain ⟨p, h1, h2, h3, h4⟩ := h.par j hj'
    rw [List.getElem_map]
    refine ⟨p, h1, h2, h3, fun h0 h5 => ?_⟩
    rw [List.getElem_map]
    exact h4 h0 (by simpa using h5)
  · rw [List.getElem_map]; exact h.rd j (by simpa using hj)
  · rw [List.getElem_map]
    obtain ⟨a, b, c, _⟩ := h.wf j (by simpa using hj)
    exact ⟨a, b, c, by show inI 0; exact inI_of (by decide) (by decide)⟩
/-- One more, whatever it is: it comes in at once. -/
theorem treeT_put_any {Bs : List Bl} {b : Bl} (hg : GoodB (Bs ++ [b])) (hg0 : GoodB Bs) : putE (treeT Bs) ((Bs.length : Int) + 1) b = 0 ∧ putS (treeT Bs) ((Bs.length : Int) + 1) b = treeT (Bs ++ [b]) := by
  have hlast : (Bs ++ [b])[Bs.length]'(by simp) = b := by simp
  have hrd := hg.rd Bs.length (by simp)
  obtain ⟨p, hp, hpl, _, _⟩ := hg.par Bs.length (by simp)
  rw [hlast] at hrd hp
  have hr : refE (treeT Bs) ((Bs.length : Int) + 1) b = 0 := by
    unfold refE
    rw [if_neg (by omega), if_neg ?_, if_neg (by show ¬ b.rd ≤ 0; omega)]
    rintro (h0 | ⟨e, he, hn⟩)
    · have : (Bs.length : Int) + 1 = 0 := h0
      omega
    · obtain ⟨j, hj, rfl⟩ := entsT_mem.1 he
      have : (j : Int) + 1 = (Bs.length : Int) + 1 := hn
      omega
  have hv : hasV (treeT Bs).root (treeT Bs).L b.p := by
    rw [hp]
    by_cases h0 : p = 0
    · left; rw [h0]; rfl
    · right
      exact ⟨⟨((p - 1 : Nat) : Int) + 1, Bs[p - 1]'(by omega), true⟩, entsT_mem.2 ⟨p - 1, by omega, rfl⟩, by show ((p - 1 : Nat) : Int) + 1 = p; omega, rfl⟩
  obtain ⟨h1, h2⟩ := putS_in hr hv
  refine ⟨h1, h2.trans ?_⟩
  have e := settle_is (r := 0) (twin.refl (entsT Bs ++ [⟨(Bs.length : Int) + 1, b, true⟩])) (by rw [← entsT_snoc]; exact entsT_ok hg)
  show (⟨64, 0, 0, settle 0 (entsT Bs ++ [⟨(Bs.length : Int) + 1, b, true⟩])⟩ : TS) = _
  rw [← e, ← entsT_snoc]
  rfl
theorem growP_good {P : List UInt8} (h : P.length ≤ 100) : GoodB (growP P) := (goodB_grow P h).nz
/-- The next block, by its parent's path. -/
theorem mkP_is {P : List UInt8} (hP : P.length ≤ 100) {c : UInt8} {m : Nat} (hm : m = c.toNat % ((growP P).length + 1)) {l : List Int} (hp : PathIs 0 (entsT (growP P)) (m : Int) l) : (⟨1, (l.length : Int) + 1, m, 0⟩ : Bl) = nzB (mkB (growB P) c) := by
  have hl : (growP P).length = (growB P).length := by rw [growP_len, growB_len]
  rw [hl] at hm
  unfold nzB mkB
  dsimp only
  rw [← hm]
  rcases path_rd (entsT_sub _) (growP_good hP) hp with ⟨h0, h1⟩ | ⟨j, hj, hn, hr⟩
  · have : m = 0 := by omega
    rw [if_pos this, h1]
    rfl
  · have hj' : j < (growB P).length := by rw [← hl]; exact hj
    have hr2 : (l.length : Int) = (growB P)[j].rd := by
      have e : (growP P)[j]'hj = nzB ((growB P)[j]'hj') := List.getElem_map nzB
      rw [hr, e]
      rfl
    have hmj : m - 1 = j := by omega
    rw [if_neg (by omega), hmj, List.getD_eq_getElem?_getD, List.getElem?_eq_getElem hj', hr2]
    rfl
theorem path_pre {r : Int} {L : List Ent} {k n : Int} {l : List Int} (h : PathIs r L k l) : ∀ x y, l = x ++ n :: y → PathIs r L n (x ++ [n]) := by
  induction h with
  | root => intro x y e; simp at e
  | up e l he hpe ih =>
    intro x y hxy
    by_cases hy : y = []
    · subst hy
      obtain ⟨e1, e2⟩ := List.append_inj' hxy rfl
      have e3 : e.n = n := by simpa using e2
      rw [← e1, ← e3]
      exact .up e l he hpe
    · obtain ⟨y0, z, rfl⟩ : ∃ y0 z, y = y0 ++ [z] := ⟨y.dropLast, y.getLast hy, (List.dropLast_concat_getLast hy).symm⟩
      have e1 : l ++ [e.n] = (x ++ n :: y0) ++ [z] := by rw [hxy]; simp
      obtain ⟨e2, _⟩ := List.append_inj' e1 rfl
      exact ih x y0 e2
/-- A number stands at one place of its path at most. -/
theorem path_at {r : Int} {L : List Ent} (h1 : OneN r L) {k n : Int} {p : List Int} (hp : PathIs r L k p) {i : Nat} (hi : i < p.length) (hn : p[i] = n) : ∃ a b, p = a ++ n :: b ∧ a.length = i ∧ PathIs r L n (a ++ [n]) := by
  obtain ⟨a, b, hab, hpa⟩ := path_cut hp (hn ▸ List.getElem_mem hi)
  have hna : n ∉ a := by
    rcases path_inv hpa with ⟨_, h⟩ | ⟨e, l', he, hen, hpe, hl⟩
    · simp at h
    · obtain ⟨e1, _⟩ := List.append_inj' hl rfl
      rw [e1, ← hen]
      exact path_apart h1 he hpe
  have hnb : n ∉ b := fun hb => by
    obtain ⟨c, d, hcd⟩ := List.append_of_mem hb
    have hp2 : p = (a ++ n :: c) ++ n :: d := by rw [hab, hcd]; simp
    have := path_one h1 hpa (path_pre hp _ _ hp2)
    have := congrArg List.length this
    simp at this
  refine ⟨a, b, hab, ?_, hpa⟩
  subst hab
  rcases Nat.lt_trichotomy i a.length with h | h | h
  · rw [List.getElem_append_left h] at hn
    exact absurd (hn ▸ List.getElem_mem h) hna
  · exact h.symm
  · rw [List.getElem_append_right (Nat.le_of_lt h)] at hn
    obtain ⟨j, hj⟩ : ∃ j, i - a.length = j + 1 := ⟨i - a.length - 1, by omega⟩
    simp only [hj, List.getElem_cons_succ] at hn
    exact absurd (hn ▸ List.getElem_mem _) hnb
section
variable {L : List Ent} {r n : Int} {K : List Int} {rd : Int}
/-- What stays: its path goes through the new root, and goes on behind it. -/
theorem cut_stays (h1 : OneN r L) (h0 : InOk r L) (hK : ∀ k, k ∈ K ↔ Under r L n k) {k : Int} {p : List Int} (hp : PathIs r L k p) {i : Nat} (hi : i < p.length) (hn : p[i] = n) : PathIs n (cutL L K rd) k (p.drop (i + 1)) := by
  obtain ⟨a, b, rfl, hai, hpa⟩ := path_at h1 hp hi hn
  have e : (a ++ n :: b).drop (i + 1) = b := by
    rw [← hai, show a ++ n :: b = (a ++ [n]) ++ b by simp, List.drop_left' (by simp)]
  rw [e]
  exact cut_path h1 h0 hK hpa _ _ _ rfl (by simpa using hp)
/-- What doesn't: it is neither in the tree nor an orphan. -/
theorem cut_gone (h1 : OneN r L) (hnr : n ≠ r) (hin : ∀ e ∈ L, e.isin = true) (hK : ∀ k, k ∈ K ↔ Under r L n k) {k : Int} {p : List Int} (hp : PathIs r L k p) (hn : n ∉ p) : ¬ hasV n (cutL L K rd) k := by
  have key : ∀ l1 l2, PathIs r L n l1 → p = l1 ++ l2 → False := fun l1 l2 p1 e => by
    obtain ⟨c, hc⟩ := path_last p1 hnr
    exact hn (by rw [e, hc]; simp)
  rintro (h | ⟨e, he, hen, _⟩)
  · subst h
    exact key p [] hp (by simp)
  · obtain ⟨he1, hq | hq⟩ := cutL_mem.1 he
    · obtain ⟨l1, l2, p1, p2, _⟩ := (hK e.n).1 hq.2
      rw [hen] at p2
      exact key l1 l2 p1 (path_one h1 hp p2)
    · rw [hin e he1] at hq
      cases hq.1
end
end Go.Proofs.Ytgepokdilieodaa
