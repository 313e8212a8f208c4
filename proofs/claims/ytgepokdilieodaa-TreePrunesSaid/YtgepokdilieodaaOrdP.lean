/-
  A tree's blocks, one behind the other; the same blocks in whatever order: plainly.
-/
import Derived.Test.YtgepokdilieodaaMiss
set_option linter.unusedSimpArgs false
set_option linter.unusedVariables false
namespace Go.Proofs.Ytgepokdilieodaa

/-- The next block: its parent's number is given by a byte. -/
def mkB (Bs : List Bl) (c : UInt8) : Bl :=
  ⟨1, (if c.toNat % (Bs.length + 1) = 0 then 0 else (Bs.getD (c.toNat % (Bs.length + 1) - 1) default).rd) + 1, (c.toNat % (Bs.length + 1) : Nat), if c.toNat % (Bs.length + 1) = 0 then 0 else (Bs.getD (c.toNat % (Bs.length + 1) - 1) default).rd⟩
def growB (P : List UInt8) : List Bl := P.foldl (fun Bs c => Bs ++ [mkB Bs c]) []
theorem growB_snoc (P : List UInt8) (c : UInt8) : growB (P ++ [c]) = growB P ++ [mkB (growB P) c] := by unfold growB; rw [List.foldl_append]; rfl
theorem growB_len (P : List UInt8) : (growB P).length = P.length := by
  have gen : ∀ (P : List UInt8) (Bs : List Bl), (P.foldl (fun Bs c => Bs ++ [mkB Bs c]) Bs).length = Bs.length + P.length := fun P => by
    induction P with
    | nil => intro Bs; rfl
    | cons c P ih => intro Bs; rw [List.foldl_cons, ih]; simp; omega
  have := gen P []
  simpa [growB] using this
/-- What such blocks are: a parent ahead, a Round above its. -/
structure GoodB (Bs : List Bl) : Prop where
  par : ∀ j (h : j < Bs.length), ∃ p : Nat, Bs[j].p = p ∧ p ≤ j ∧ (p = 0 → Bs[j].rd = 1) ∧ ∀ (h0 : 0 < p) (h1 : p - 1 < Bs.length), Bs[j].rd = Bs[p - 1].rd + 1
  rd : ∀ j (h : j < Bs.length), 1 ≤ Bs[j].rd ∧ Bs[j].rd ≤ j + 1
  wf : ∀ j (h : j < Bs.length), Bs[j].wf
theorem goodB_nil : GoodB [] := ⟨fun j h => absurd h (by simp), fun j h => absurd h (by simp), fun j h => absurd h (by simp)⟩
theorem goodB_snoc {Bs : List Bl} (h : GoodB Bs) (hl : Bs.length ≤ 100) (c : UInt8) : GoodB (Bs ++ [mkB Bs c]) := by
  have hp : c.toNat % (Bs.length + 1) < Bs.length + 1 := Nat.mod_lt _ (by omega)
  have hrd : 1 ≤ (mkB Bs c).rd ∧ (mkB Bs c).rd ≤ Bs.length + 1 := by
    unfold mkB
    dsimp only
    split
    · omega
    · next h0 =>
      have hj : c.toNat % (Bs.length + 1) - 1 < Bs.length := by omega
      have := h.rd _ hj
      rw [List.getD_eq_getElem?_getD, List.getElem?_eq_getElem hj]
      dsimp only [Option.getD_some]
      omega
  have last : ∀ j, j < (Bs ++ [mkB Bs c]).length → ¬ j < Bs.length → j = Bs.length := fun j h1 h2 => by simp at h1; omega
  refine ⟨fun j hj => ?_, fun j hj => ?_, fun j hj => ?_⟩
  · by_cases c1 : j < Bs.length
    · obtain ⟨p, h1, h2, h3, h4⟩ := h.par j c1
      rw [List.getElem_append_left c1]
      refine ⟨p, h1, h2, h3, fun h0 h5 => ?_⟩
      rw [List.getElem_append_left (by omega)]
      exact h4 h0 (by omega)
    · obtain rfl := last j hj c1
      rw [List.getElem_append_right (Nat.le_refl _)]
      simp only [Nat.sub_self, List.getElem_cons_zero]
      refine ⟨c.toNat % (Bs.length + 1), rfl, by omega, fun h0 => ?_, fun h0 h5 => ?_⟩
      · unfold mkB; dsimp only; rw [if_pos h0]; rfl
      · have hj : c.toNat % (Bs.length + 1) - 1 < Bs.length := by omega
        rw [List.getElem_append_left hj]
        unfold mkB
        dsimp only
        rw [if_neg (by omega), List.getD_eq_getElem?_getD, List.getElem?_eq_getElem hj]
        rfl
  · by_cases c1 : j < Bs.length
    · rw [List.getElem_append_left c1]; exact h.rd j c1
    · obtain rfl := last j hj c1
      rw [List.getElem_append_right (Nat.le_refl _)]
      simpa using hrd
  · by_cases c1 : j < Bs.length
    · rw [List.getElem_append_left c1]; exact h.wf j c1
    · obtain rfl := last j hj c1
      rw [List.getElem_append_right (Nat.le_refl _)]
      simp only [Nat.sub_self, List.getElem_cons_zero]
      have e : (mkB Bs c).pr = (mkB Bs c).rd - 1 := by unfold mkB; dsimp only; omega
      refine ⟨⟨?_, ?_⟩, ⟨?_, ?_⟩, ⟨?_, ?_⟩, ⟨?_, ?_⟩⟩
      · show -9223372036854775808 ≤ (1 : Int); decide
      · show (1 : Int) ≤ 9223372036854775807; decide
      · omega
      · omega
      · show -9223372036854775808 ≤ ((c.toNat % (Bs.length + 1) : Nat) : Int); omega
      · show ((c.toNat % (Bs.length + 1) : Nat) : Int) ≤ 9223372036854775807; omega
      · rw [e]; omega
      · rw [e]; omega
theorem goodB_grow : ∀ (P : List UInt8), P.length ≤ 100 → GoodB (growB P) := fun P => by
  induction h : P.length generalizing P with
  | zero =>
    intro _
    have : P = [] := List.eq_nil_of_length_eq_zero h
    subst this
    exact goodB_nil
  | succ n ih =>
    intro hn
    have hne : P ≠ [] := by rintro rfl; simp at h
    have e := List.dropLast_concat_getLast hne
    rw [← e, growB_snoc]
    have hl : P.dropLast.length = n := by simp [h]
    exact goodB_snoc (ih _ hl (by omega)) (by rw [growB_len, hl]; omega) _

/-- They as a tree's entries: all are in. -/
def entsT (Bs : List Bl) : List Ent := Bs.zipIdx.map fun q => ⟨(q.2 : Int) + 1, q.1, true⟩
theorem entsT_snoc (Bs : List Bl) (b : Bl) : entsT (Bs ++ [b]) = entsT Bs ++ [⟨(Bs.length : Int) + 1, b, true⟩] := by
  unfold entsT
  rw [List.zipIdx_append, List.map_append]
  simp
theorem entsT_len (Bs : List Bl) : (entsT Bs).length = Bs.length := by unfold entsT; simp
theorem entsT_mem {Bs : List Bl} {e : Ent} : e ∈ entsT Bs ↔ ∃ j, ∃ h : j < Bs.length, e = ⟨(j : Int) + 1, Bs[j], true⟩ := by
  unfold entsT
  rw [List.mem_map]
  constructor
  · rintro ⟨⟨b, j⟩, hq, rfl⟩
    have := List.mk_mem_zipIdx_iff_getElem?.1 hq
    obtain ⟨hj, hb⟩ := List.getElem?_eq_some_iff.1 this
    exact ⟨j, hj, by rw [hb]⟩
  · rintro ⟨j, hj, rfl⟩
    exact ⟨(Bs[j], j), List.mk_mem_zipIdx_iff_getElem?.2 (List.getElem?_eq_getElem hj), rfl⟩
theorem hangT {Bs : List Bl} (h : GoodB Bs) : ∀ j, j < Bs.length → Hang 0 (entsT Bs) ((j : Int) + 1) := fun j => by
  induction j using Nat.strongRecOn with
  | _ j ih =>
    intro hj
    obtain ⟨p, h1, h2, _, _⟩ := h.par j hj
    have hm : (⟨(j : Int) + 1, Bs[j], true⟩ : Ent) ∈ entsT Bs := entsT_mem.2 ⟨j, hj, rfl⟩
    refine Hang.up ⟨(j : Int) + 1, Bs[j], true⟩ hm ?_
    show Hang 0 (entsT Bs) Bs[j].p
    rw [h1]
    by_cases h0 : p = 0
    · rw [h0]; exact .root
    · have := ih (p - 1) (by omega) (by omega)
      rwa [show ((p - 1 : Nat) : Int) + 1 = (p : Int) by omega] at this
theorem entsT_one (Bs : List Bl) : OneN 0 (entsT Bs) := by
  refine ⟨?_, fun e he => ?_⟩
  · unfold entsT
    rw [List.map_map]
    have e : ((fun e : Ent => e.n) ∘ fun q : Bl × Nat => (⟨(q.2 : Int) + 1, q.1, true⟩ : Ent)) = (fun k : Nat => (k : Int) + 1) ∘ Prod.snd := rfl
    rw [e, ← List.map_map]
    refine List.Pairwise.map _ (fun a b hab => ?_) (show (Bs.zipIdx.map Prod.snd).Nodup from ?_)
    · intro h; apply hab; omega
    · rw [show Bs.zipIdx.map Prod.snd = List.range' 0 Bs.length by simp]
      exact List.nodup_range' (step := 1)
  · obtain ⟨j, hj, rfl⟩ := entsT_mem.1 he
    show (j : Int) + 1 ≠ 0
    omega
theorem entsT_ok {Bs : List Bl} (h : GoodB Bs) : InOk 0 (entsT Bs) := fun e he => by
  obtain ⟨j, hj, rfl⟩ := entsT_mem.1 he
  exact ⟨fun _ => hangT h j hj, fun _ => rfl⟩
/-- The tree of all of them. -/
def treeT (Bs : List Bl) : TS := ⟨64, 0, 0, entsT Bs⟩
theorem inI_of {n : Int} (h1 : -1000000 ≤ n) (h2 : n ≤ 1000000) : inI n := ⟨by omega, by omega⟩
theorem treeT_wf {Bs : List Bl} (h : GoodB Bs) (hl : Bs.length ≤ 1000) : (treeT Bs).wf := by
  refine ⟨entsT_one Bs, entsT_ok h, fun e he => ?_, fun e he => ?_, inI_of (by simp [treeT]) (by simp [treeT]), inI_of (by simp [treeT]) (by simp [treeT]), inI_of (by simp [treeT]) (by simp [treeT])⟩
  · obtain ⟨j, hj, rfl⟩ := entsT_mem.1 he
    refine inI_of ?_ ?_
    · show (-1000000 : Int) ≤ (j : Int) + 1; omega
    · show (j : Int) + 1 ≤ 1000000; omega
  · obtain ⟨j, hj, rfl⟩ := entsT_mem.1 he
    exact h.wf j hj
/-- One more, in the tree's own order: it comes in at once. -/
theorem treeT_put {Bs : List Bl} (h : GoodB Bs) (hl : Bs.length ≤ 100) (c : UInt8) : putE (treeT Bs) ((Bs.length : Int) + 1) (mkB Bs c) = 0 ∧ putS (treeT Bs) ((Bs.length : Int) + 1) (mkB Bs c) = treeT (Bs ++ [mkB Bs c]) := by
  have hg := goodB_snoc h hl c
  have hlast : (Bs ++ [mkB Bs c])[Bs.length]'(by simp) = mkB Bs c := by simp
  have hrd := hg.rd Bs.length (by simp)
  obtain ⟨p, hp, hpl, _, _⟩ := hg.par Bs.length (by simp)
  rw [hlast] at hrd hp
  have hr : refE (treeT Bs) ((Bs.length : Int) + 1) (mkB Bs c) = 0 := by
    unfold refE
    rw [if_neg (by omega), if_neg ?_, if_neg (by show ¬ (mkB Bs c).rd ≤ 0; omega)]
    rintro (h0 | ⟨e, he, hn⟩)
    · have : (Bs.length : Int) + 1 = 0 := h0
      omega
    · obtain ⟨j, hj, rfl⟩ := entsT_mem.1 he
      have : (j : Int) + 1 = (Bs.length : Int) + 1 := hn
      omega
  have hv : hasV (treeT Bs).root (treeT Bs).L (mkB Bs c).p := by
    rw [hp]
    by_cases h0 : p = 0
    · left; rw [h0]; rfl
    · right
      exact ⟨⟨((p - 1 : Nat) : Int) + 1, Bs[p - 1]'(by omega), true⟩, entsT_mem.2 ⟨p - 1, by omega, rfl⟩, by show ((p - 1 : Nat) : Int) + 1 = p; omega, rfl⟩
  obtain ⟨h1, h2⟩ := putS_in hr hv
  refine ⟨h1, h2.trans ?_⟩
  have e := settle_is (r := 0) (twin.refl (entsT Bs ++ [⟨(Bs.length : Int) + 1, mkB Bs c, true⟩])) (by rw [← entsT_snoc]; exact entsT_ok hg)
  show (⟨64, 0, 0, settle 0 (entsT Bs ++ [⟨(Bs.length : Int) + 1, mkB Bs c, true⟩])⟩ : TS) = _
  rw [← e, ← entsT_snoc]
  rfl

/-! Paths of such blocks -/
/-- All of these are blocks of those. -/
def SubB (M : List Ent) (Bs : List Bl) : Prop := ∀ e ∈ M, ∃ j, ∃ h : j < Bs.length, e.n = (j : Int) + 1 ∧ e.b = Bs[j]
theorem entsT_sub (Bs : List Bl) : SubB (entsT Bs) Bs := fun e he => by
  obtain ⟨j, hj, rfl⟩ := entsT_mem.1 he
  exact ⟨j, hj, rfl, rfl⟩
theorem path_rd {M : List Ent} {Bs : List Bl} (hs : SubB M Bs) (h : GoodB Bs) {n : Int} {l : List Int} (hp : PathIs 0 M n l) : (n = 0 ∧ l = []) ∨ ∃ j, ∃ hj : j < Bs.length, n = (j : Int) + 1 ∧ (l.length : Int) = Bs[j].rd := by
  induction hp with
  | root => exact .inl ⟨rfl, rfl⟩
  | up e l he _ ih =>
    right
    obtain ⟨j, hj, h1, h2⟩ := hs e he
    obtain ⟨p, g1, g2, g3, g4⟩ := h.par j hj
    have hep : e.p = p := by show e.b.p = p; rw [h2, g1]
    refine ⟨j, hj, h1, ?_⟩
    simp only [List.length_append, List.length_cons, List.length_nil]
    rcases ih with ⟨h0, rfl⟩ | ⟨i, hi, hn, hl⟩
    · rw [g3 (by omega)]; rfl
    · have hpi : p - 1 = i := by omega
      have := g4 (by omega) (by omega)
      rw [this]
      simp only [hpi]
      omega
theorem path_chain {M : List Ent} {Bs : List Bl} (hs : SubB M Bs) (h : GoodB Bs) {n : Int} {l : List Int} (hp : PathIs 0 M n l) : ∀ k (hk : k < l.length), ∃ j, ∃ hj : j < Bs.length, l[k] = (j : Int) + 1 ∧ Bs[j].p = if k = 0 then 0 else l.getD (k - 1) 0 := by
  induction hp with
  | root => intro k hk; exact absurd hk (by simp)
  | up e l he hpp ih =>
    intro k hk
    by_cases c : k < l.length
    · obtain ⟨j, hj, h1, h2⟩ := ih k c
      refine ⟨j, hj, by rw [List.getElem_append_left c]; exact h1, ?_⟩
      rw [h2]
      split
      · rfl
      · rw [List.getD_eq_getElem?_getD, List.getD_eq_getElem?_getD, List.getElem?_append_left (by omega)]
    · have hkl : k = l.length := by simp at hk; omega
      subst hkl
      obtain ⟨j, hj, h1, h2⟩ := hs e he
      refine ⟨j, hj, by simpa using h1, ?_⟩
      rw [← h2]
      by_cases h0 : e.p = 0
      · have : l = [] := by
          rcases path_rd hs h hpp with ⟨_, hl⟩ | ⟨i, hi, hn, _⟩
          · exact hl
          · omega
        subst this
        exact h0
      · obtain ⟨k', rfl⟩ := path_last hpp h0
        rw [if_neg (by simp)]
        simp
theorem PathIs.mono {r : Int} {L M : List Ent} (h : ∀ e ∈ L, ∃ f ∈ M, f.n = e.n ∧ f.p = e.p) {n : Int} {l : List Int} (hp : PathIs r L n l) : PathIs r M n l := by
  induction hp with
  | root => exact .root
  | up e l he _ ih =>
    obtain ⟨f, hf, h1, h2⟩ := h e he
    rw [← h1]
    exact .up f l hf (by rw [h2]; exact ih)

/-! The same blocks in another order -/
/-- After these have come: a tree with just them. -/
structure CameB (Bs : List Bl) (σ : List Nat) (s : TS) : Prop where
  most : s.most = 64
  root : s.root = 0
  round : s.round = 0
  wf : s.wf
  len : s.L.length = σ.length
  sub : ∀ e ∈ s.L, ∃ j, ∃ h : j < Bs.length, j ∈ σ ∧ e.n = (j : Int) + 1 ∧ e.b = Bs[j]
  sup : ∀ j ∈ σ, ∀ h : j < Bs.length, ∃ e ∈ s.L, e.n = (j : Int) + 1 ∧ e.b = Bs[j]
theorem came_nil (Bs : List Bl) : CameB Bs [] ⟨64, 0, 0, []⟩ := ⟨rfl, rfl, rfl, new_wf 64 (inI_of (by decide) (by decide)), rfl, fun e he => (nomatch he), fun j hj => (nomatch hj)⟩
theorem putS_twin {s : TS} {n : Int} {b : Bl} (h : refE s n b = 0) (ho : (orph s.L : Int) < s.most) : (putE s n b = 0 ∨ putE s n b = 150) ∧ (putS s n b).most = s.most ∧ (putS s n b).root = s.root ∧ (putS s n b).round = s.round ∧ twin (putS s n b).L (s.L ++ [⟨n, b, true⟩]) := by
  by_cases hv : hasV s.root s.L b.p
  · obtain ⟨h1, h2⟩ := putS_in h hv
    rw [h2]
    exact ⟨.inl h1, rfl, rfl, rfl, settle_twin _ _⟩
  · obtain ⟨h1, h2⟩ := putS_orph h hv (by omega)
    rw [h2]
    refine ⟨.inr h1, rfl, rfl, rfl, ?_⟩
    unfold twin
    simp
theorem orph_le (L : List Ent) : orph L ≤ L.length := by unfold orph; exact List.length_filter_le _ _
theorem came_put {Bs : List Bl} {σ : List Nat} {s : TS} (hg : GoodB Bs) (h : CameB Bs σ s) (hl : σ.length ≤ 40) (hlB : Bs.length ≤ 1000) {j : Nat} (hj : j < Bs.length) (hn : j ∉ σ) :
    (putE s ((j : Int) + 1) Bs[j] = 0 ∨ putE s ((j : Int) + 1) Bs[j] = 150) ∧ CameB Bs (σ ++ [j]) (putS s ((j : Int) + 1) Bs[j]) := by
  have hr : refE s ((j : Int) + 1) Bs[j] = 0 := by
    have hrd := hg.rd j hj
    unfold refE
    rw [if_neg (by omega), if_neg ?_, if_neg (by rw [h.round]; omega)]
    rintro (h0 | ⟨e, he, hne⟩)
    · rw [h.root] at h0; omega
    · obtain ⟨i, hi, hm, h1, _⟩ := h.sub e he
      have : i = j := by omega
      rw [this] at hm
      exact hn hm
  have ho : (orph s.L : Int) < s.most := by
    have := orph_le s.L
    rw [h.most, h.len] at *
    omega
  obtain ⟨h1, h2, h3, h4, h5⟩ := putS_twin hr ho
  refine ⟨h1, h2.trans h.most, h3.trans h.root, h4.trans h.round, putS_wf h.wf (inI_of (by omega) (by omega)) (hg.wf j hj), ?_, fun e he => ?_, fun i hi hiB => ?_⟩
  · rw [h5.len]; simp [h.len]
  · obtain ⟨f, hf, e1, e2⟩ := twin_mem h5 he
    rcases List.mem_append.1 hf with hf | hf
    · obtain ⟨i, hi, hm, g1, g2⟩ := h.sub f hf
      exact ⟨i, hi, List.mem_append_left _ hm, e1.symm.trans g1, e2.symm.trans g2⟩
    · obtain rfl : f = ⟨(j : Int) + 1, Bs[j], true⟩ := by simpa using hf
      exact ⟨j, hj, by simp, e1.symm, e2.symm⟩
  · rcases List.mem_append.1 hi with hi | hi
    · obtain ⟨e, he, g1, g2⟩ := h.sup i hi hiB
      obtain ⟨f, hf, e1, e2⟩ := twin_mem h5.symm (List.mem_append_left _ he)
      exact ⟨f, hf, e1.trans g1, e2.trans g2⟩
    · obtain rfl : i = j := by simpa using hi
      obtain ⟨f, hf, e1, e2⟩ := twin_mem h5.symm (e := ⟨(i : Int) + 1, Bs[i], true⟩) (by simp)
      exact ⟨f, hf, e1, e2⟩
/-- All have come: nothing is left. -/
theorem came_all {Bs : List Bl} {σ : List Nat} {s : TS} (hg : GoodB Bs) (h : CameB Bs σ s) (ha : ∀ j, j < Bs.length → j ∈ σ) : (∀ e ∈ s.L, e.isin = true) ∧ (∀ e ∈ s.L, ∃ f ∈ entsT Bs, f.n = e.n ∧ f.p = e.p) ∧ ∀ e ∈ entsT Bs, ∃ f ∈ s.L, f.n = e.n ∧ f.p = e.p := by
  have h1 : ∀ e ∈ entsT Bs, ∃ f ∈ s.L, f.n = e.n ∧ f.p = e.p := fun e he => by
    obtain ⟨j, hj, rfl⟩ := entsT_mem.1 he
    obtain ⟨f, hf, e1, e2⟩ := h.sup j (ha j hj) hj
    exact ⟨f, hf, e1, congrArg Bl.p e2⟩
  refine ⟨fun e he => ?_, fun e he => ?_, h1⟩
  · obtain ⟨j, hj, _, e1, _⟩ := h.sub e he
    have hh : Hang 0 s.L ((j : Int) + 1) := (hangT hg j hj).mono h1
    rw [← e1] at hh
    have ho := h.wf.ok
    rw [h.root] at ho
    exact (ho e he).2 hh
  · obtain ⟨j, hj, _, e1, e2⟩ := h.sub e he
    exact ⟨⟨(j : Int) + 1, Bs[j], true⟩, entsT_mem.2 ⟨j, hj, rfl⟩, e1.symm, by show Bs[j].p = e.b.p; rw [e2]⟩

/-! Numbers in another order -/
/-- The numbers below n, each once, in some order. -/
structure PermN (n : Nat) (zs : List Int) : Prop where
  len : zs.length = n
  nodup : zs.Nodup
  mem : ∀ z ∈ zs, ∃ j : Nat, z = j ∧ j < n
theorem permN_range (n : Nat) : PermN n ((List.range n).map fun k : Nat => (k : Int)) := by
  refine ⟨by simp, List.Pairwise.map _ (fun a b hab h => hab (by omega)) List.nodup_range, fun z hz => ?_⟩
  obtain ⟨k, hk, rfl⟩ := List.mem_map.1 hz
  exact ⟨k, rfl, List.mem_range.1 hk⟩
theorem swap_at {zs : List Int} {x y : Nat} (hx : x < zs.length) (hy : y < zs.length) (i : Nat) (hi : i < ((zs.set x zs[y]).set y zs[x]).length) :
    ((zs.set x zs[y]).set y zs[x])[i] = zs[if i = y then x else if i = x then y else i]'(by simp at hi; split; exact hx; split; exact hy; exact hi) := by
  rw [List.getElem_set]
  by_cases h1 : y = i
  · subst h1; simp
  · rw [if_neg h1, List.getElem_set]
    have h1' : ¬ i = y := fun e => h1 e.symm
    by_cases h2 : x = i
    · subst h2; simp [h1']
    · have h2' : ¬ i = x := fun e => h2 e.symm
      simp [h2, h1', h2']
theorem PermN.swap {n : Nat} {zs : List Int} (h : PermN n zs) {x y : Nat} (hx : x < zs.length) (hy : y < zs.length) : PermN n ((zs.set x zs[y]).set y zs[x]) := by
  refine ⟨by simp [h.len], ?_, fun z hz => ?_⟩
  · rw [List.Nodup, List.pairwise_iff_getElem]
    intro i j hi hj hij
    rw [swap_at hx hy i hi, swap_at hx hy j hj]
    have hnd := h.nodup
    rw [List.Nodup, List.pairwise_iff_getElem] at hnd
    have inj : ∀ a b (ha : a < zs.length) (hb : b < zs.length), a ≠ b → zs[a] ≠ zs[b] := fun a b ha hb hab => by
      rcases Nat.lt_or_gt_of_ne hab with h | h
      · exact hnd a b ha hb h
      · exact fun e => hnd b a hb ha h e.symm
    apply inj
    split <;> split <;> (try split) <;> (try split) <;> omega
  · obtain ⟨i, hi, rfl⟩ := List.getElem_of_mem hz
    rw [swap_at hx hy i hi]
    exact h.mem _ (List.getElem_mem _)
theorem PermN.toNat_nodup {n : Nat} {zs : List Int} (h : PermN n zs) : (zs.map Int.toNat).Nodup := by
  refine List.pairwise_map.2 (h.nodup.imp_of_mem fun {a b} ha hb hab e => hab ?_)
  obtain ⟨i, rfl, _⟩ := h.mem a ha
  obtain ⟨k, rfl, _⟩ := h.mem b hb
  have : i = k := by simpa using e
  rw [this]
/-- Each number below n is there. -/
theorem PermN.all {n : Nat} {zs : List Int} (h : PermN n zs) {j : Nat} (hj : j < n) : (j : Int) ∈ zs := by
  refine Classical.byContradiction fun hn => ?_
  have h1 := len_sub (l := (j : Int) :: zs) (m := (List.range n).map fun k : Nat => (k : Int)) (List.nodup_cons.2 ⟨hn, h.nodup⟩) fun z hz => by
    rcases List.mem_cons.1 hz with rfl | hz
    · exact List.mem_map.2 ⟨j, List.mem_range.2 hj, rfl⟩
    · obtain ⟨k, rfl, hk⟩ := h.mem z hz
      exact List.mem_map.2 ⟨k, List.mem_range.2 hk, rfl⟩
  simp [h.len] at h1
  omega
/-- What a tree with all of them tells. -/
structure DoneB (Bs : List Bl) (s : TS) : Prop where
  root : s.root = 0
  wf : s.wf
  inn : (inN s.L).length = Bs.length
  out : orph s.L = 0
  miss : ∀ k, ¬ MissC s.L k
  lack : ∀ m : Nat, 1 ≤ m → m ≤ Bs.length → lackE s m = 0
  path : ∀ {n : Int} {l : List Int}, PathIs 0 s.L n l → PathIs 0 (entsT Bs) n l
theorem doneB_of {Bs : List Bl} {s : TS} (hr : s.root = 0) (hw : s.wf) (hin : ∀ e ∈ s.L, e.isin = true) (hl : s.L.length = Bs.length) (h1 : ∀ e ∈ s.L, ∃ f ∈ entsT Bs, f.n = e.n ∧ f.p = e.p) (h2 : ∀ e ∈ entsT Bs, ∃ f ∈ s.L, f.n = e.n ∧ f.p = e.p) : DoneB Bs s := by
  have ho : orph s.L = 0 := by
    unfold orph
    rw [List.filter_eq_nil_iff.2 (fun e he => by simp [hin e he])]
    rfl
  have hi := in_len s.L
  refine ⟨hr, hw, by omega, ho, (fun k ⟨e, he, hf, _⟩ => by rw [hin e he] at hf; cases hf), fun m hm1 hm2 => ?_, fun hp => hp.mono h1⟩
  have hm : (⟨((m - 1 : Nat) : Int) + 1, Bs[m - 1]'(by omega), true⟩ : Ent) ∈ entsT Bs := entsT_mem.2 ⟨m - 1, by omega, rfl⟩
  obtain ⟨f, hf, e1, _⟩ := h2 _ hm
  refine if_pos (.inr ⟨f, hf, e1.trans ?_, hin f hf⟩)
  show ((m - 1 : Nat) : Int) + 1 = m
  omega
theorem CameB.done {Bs : List Bl} {zs : List Int} {s : TS} (hg : GoodB Bs) (h : CameB Bs (zs.map Int.toNat) s) (hp : PermN Bs.length zs) : DoneB Bs s := by
  obtain ⟨h1, h2, h3⟩ := came_all hg h fun j hj => List.mem_map.2 ⟨(j : Int), hp.all hj, rfl⟩
  exact doneB_of h.root h.wf h1 (by rw [h.len, List.length_map, hp.len]) h2 h3
theorem treeT_done {Bs : List Bl} (hg : GoodB Bs) (hl : Bs.length ≤ 1000) : DoneB Bs (treeT Bs) := by
  refine doneB_of rfl (treeT_wf hg hl) (fun e he => ?_) (entsT_len Bs) (fun e he => ⟨e, he, rfl, rfl⟩) (fun e he => ⟨e, he, rfl, rfl⟩)
  obtain ⟨j, hj, rfl⟩ := entsT_mem.1 he
  rfl
/-- The path to a block. -/
theorem pathB {Bs : List Bl} (hg : GoodB Bs) {mm : Nat} (h : mm < Bs.length) : ∃ p, PathIs 0 (entsT Bs) ((mm : Int) + 1) p ∧ (p.length : Int) = Bs[mm].rd ∧ ∃ lm, ∃ hl : lm < p.length, p.length = lm + 1 ∧ p[lm] = (mm : Int) + 1 := by
  obtain ⟨p, hp⟩ := hang_path (hangT hg mm h)
  refine ⟨p, hp, ?_, ?_⟩
  · rcases path_rd (entsT_sub Bs) hg hp with ⟨h0, _⟩ | ⟨j, hj, hn, hl⟩
    · omega
    · have : j = mm := by omega
      subst this
      exact hl
  · obtain ⟨k, rfl⟩ := path_last hp (by omega)
    exact ⟨k.length, by simp, by simp, by simp⟩
end Go.Proofs.Ytgepokdilieodaa
