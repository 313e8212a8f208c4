/-
  The document's tree, one block more: what is held, and how orphans come in, one by one.
-/
import Derived.Test.YtgclofemhhhepaaRefCo
import Derived.Test.YtgclofemhhhepaaPut
set_option linter.unusedSimpArgs false
set_option linter.unusedVariables false
set_option maxRecDepth 10000
namespace Go.Proofs.Ytgclofemhhhepaa
open Go.RowKit Go.Maps Go.Lib
open L3 (Blk Reads block_of_add add_of_add)
open L6 (Turn moreB fresh From In)

/-- What is held: the tree's block, the new one's, the answer's. -/
structure PuAt (w : World) (m r rd : Int) (A : Option Addr) (z c : Nat) (b : Bl) (X : World) : Prop where
  tb : Blk X w.heap.size 30 (rtC m r rd A z c)
  bb : Blk X (w.heap.size + 1) 39 (blC b)
  re : Blk X (w.heap.size + 2) 30 (rtC 0 0 0 none 0 0)
  bw : Below w.heap.size w X
section
variable {w X Y : World} {m r rd : Int} {A : Option Addr} {z c : Nat} {b : Bl}
theorem PuAt.below (h : PuAt w m r rd A z c b X) (hb : Below X.heap.size X Y) : PuAt w m r rd A z c b Y := ⟨h.tb.below hb h.tb.lt, h.bb.below hb h.bb.lt, h.re.below hb h.re.lt, nxt h.bw hb⟩
theorem PuAt.alloc (h : PuAt w m r rd A z c b X) (o : Obj) : PuAt w m r rd A z c b (X.alloc o) := h.below ((Below.refl _ _).alloc (Nat.le_refl _) o)
theorem PuAt.grown (h : PuAt w m r rd A z c b X) {row : Option Nat} (hg : X.grownBy Y row) (hr : ∀ g, row = some g → w.heap.size + 3 ≤ g) : PuAt w m r rd A z c b Y := by
  have ht : Turn (fun k => w.heap.size + 3 ≤ k) X Y := L6.Turn.of_grown hg hr
  exact ⟨ht.blk h.tb (by omega), ht.blk h.bb (by omega), ht.blk h.re (by omega), h.bw.trans (ht.below (B := w.heap.size) (fun i hi => by omega) h.bw.size)⟩
theorem PuAt.size (h : PuAt w m r rd A z c b X) : w.heap.size + 3 ≤ X.heap.size := by have := h.re.lt; omega
theorem PuAt.drew (h : PuAt w m r rd A z c b X) : PuAt w m r rd A z c b X.drew := ⟨h.tb, h.bb, h.re, L6.below_drew h.bw⟩
/-- A cell of a block behind these is stored. -/
theorem PuAt.cell (h : PuAt w m r rd A z c b X) {g i : Nat} (hg : w.heap.size + 3 ≤ g) (u : Value) : PuAt w m r rd A z c b (X.setCell ⟨g, i, none⟩ u) :=
  ⟨h.tb.far (by show w.heap.size ≠ g; omega) u, h.bb.far (by show w.heap.size + 1 ≠ g; omega) u, h.re.far (by show w.heap.size + 2 ≠ g; omega) u, h.bw.setCell (p := ⟨g, i, none⟩) (by show w.heap.size ≤ g; omega) u⟩
/-- The tree has another list. -/
theorem PuAt.list (h : PuAt w m r rd A z c b X) (A2 : Option Addr) (z2 c2 : Nat) : PuAt w m r rd A2 z2 c2 b (X.setCell ⟨w.heap.size, 3, none⟩ (.slice A2 z2 c2)) :=
  ⟨h.tb.set_ 3 _, h.bb.far (by show w.heap.size + 1 ≠ w.heap.size; omega) _, h.re.far (by show w.heap.size + 2 ≠ w.heap.size; omega) _, h.bw.setCell (p := ⟨w.heap.size, 3, none⟩) (Nat.le_refl _) _⟩
theorem PuAt.start (w : World) (m r rd : Int) (A : Option Addr) (z c : Nat) (b : Bl) : PuAt w m r rd A z c b (((w.alloc (.cells (rtC m r rd A z c) 30)).alloc (.cells (blC b) 39)).alloc (.cells (rtC 0 0 0 none 0 0) 30)) := by
  have k2 := Blk.new (w.alloc (.cells (rtC m r rd A z c) 30)) 39 (blC b)
  have k3 := Blk.new ((w.alloc (.cells (rtC m r rd A z c) 30)).alloc (.cells (blC b) 39)) 30 (rtC 0 0 0 none 0 0)
  exact ⟨((Blk.new _ _ _).alloc _).alloc _, by simpa using k2.alloc _, by simpa using k3, (((Below.refl _ _).alloc (Nat.le_refl _) _).alloc (by simp) _).alloc (by simp; omega) _⟩
end

/-! One comes in, in memory -/
/-- How many of the first entries are orphans, as the memory tells. -/
def orphW (g : Nat) (w : World) : Nat → Nat
  | 0 => 0
  | k + 1 => orphW g w k + match w.cell? ⟨g, k * 16 + 15, none⟩ with | some (.bool false) => 1 | _ => 0
theorem orphW_is {w : World} {g : Nat} {M : List Ent} (h : Rd enL 16 w (some ⟨g, 0, none⟩) M) : ∀ k, k ≤ M.length → orphW g w k = orph (M.take k)
  | 0, _ => rfl
  | k + 1, hk => by
    obtain ⟨ad, e, _, _, _, c15, _⟩ := h.entry (show k < M.length by omega)
    injection e with e
    subst e
    have c : w.cell? ⟨g, k * 16 + 15, none⟩ = some (.bool M[k].isin) := by
      rw [← c15]
      congr 1
      unfold Addr.add
      split
      · next h0 => simp [h0]
      · simp
    rw [orphW, orphW_is h k (by omega), orph_snoc (show k < M.length by omega), c]
    cases M[k].isin <;> rfl
theorem flat_set {M : List Ent} {k : Nat} {e : Ent} (hk : k < M.length) {j : Nat} {u : Value} (hj : j < 16) (he : enL e = (enL M[k]).set j u) : (M.set k e).flatMap enL = (M.flatMap enL).set (k * 16 + j) u := by
  induction M generalizing k with
  | nil => simp at hk
  | cons x M ih =>
    cases k with
    | zero =>
      simp only [List.set_cons_zero, List.flatMap_cons, Nat.zero_mul, Nat.zero_add]
      rw [List.set_append_left _ _ (by rw [enL_len]; exact hj), he]
      rfl
    | succ k =>
      simp only [List.set_cons_succ, List.flatMap_cons]
      rw [ih (by simpa using hk) he, List.set_append_right _ _ (by rw [enL_len]; omega)]
      congr 2
      rw [enL_len]; omega
theorem setIn_set {M : List Ent} (h1 : (M.map (·.n)).Nodup) {k : Nat} (hk : k < M.length) : setIn M[k].n M = M.set k { M[k] with isin := true } := by
  refine List.ext_getElem (by simp [setIn]) fun j h2 h3 => ?_
  have hj : j < M.length := by simpa [setIn] using h2
  rw [List.getElem_set]
  have e : (setIn M[k].n M)[j] = if M[j].n = M[k].n then { M[j] with isin := true } else M[j] := by
    exact List.getElem_map (fun e : Ent => if e.n = M[k].n then { e with isin := true } else e)
  rw [e]
  by_cases c : k = j
  · subst c; rw [if_pos rfl, if_pos rfl]
  · rw [if_neg c, if_neg]
    intro he
    have hij := List.getElem_inj (xs := M.map (·.n)) (i := j) (j := k) (h₀ := by simpa using hj) (h₁ := by simpa using hk) h1
    exact c ((hij.1 (by simpa using he)).symm)
/-- A row of entries, in block g. -/
abbrev OwnE (w : World) (base g n c : Nat) (M : List Ent) : Prop := w.ownsRow base 68 16 (.slice (some ⟨g, 0, none⟩) n c) M.length (M.flatMap enL)
theorem OwnE.rd {w : World} {base g n c : Nat} {M : List Ent} (h : OwnE w base g n c M) : n = M.length ∧ Rd enL 16 w (some ⟨g, 0, none⟩) M ∧ base ≤ g ∧ g < w.heap.size := by
  obtain ⟨A, c', hv, hr, hA⟩ := Rd.of_row (f := enL) (k := 16) enL_len h
  injection hv with h1 h2 h3
  subst h1
  exact ⟨h2, hr, hA _ rfl⟩
theorem OwnE.set_ {w : World} {base g n c : Nat} {M : List Ent} (h : OwnE w base g n c M) (h1 : (M.map (·.n)).Nodup) {k : Nat} (hk : k < M.length) : OwnE (w.setCell ⟨g, k * 16 + 15, none⟩ (.bool true)) base g n c (setIn M[k].n M) := by
  have e1 : (setIn M[k].n M).length = M.length := by simp [setIn]
  have e2 : (setIn M[k].n M).flatMap enL = (M.flatMap enL).set (k * 16 + 15) (.bool true) := by
    rw [setIn_set h1 hk]
    exact flat_set hk (by decide) rfl
  unfold OwnE
  rw [e1, e2]
  obtain ⟨hl, h | ⟨g', cap, cur, hv, hg, hb, h2, h3, h4, h5⟩⟩ := h
  · cases h.1
  · injection hv with hv1 hv2 hv3
    injection hv1 with hv1
    injection hv1 with hv1
    subst hv1 hv3
    refine ⟨by rw [List.length_set]; exact hl, .inr ⟨g, c, _, by rw [hv2], hg, Blk.set_ (show Blk w g _ cur from hb) _ _, h2, h3, by simp [h4], ?_⟩⟩
    rw [Array.toList_setIfInBounds, List.take_set, h5]
theorem OwnE.below {w w' : World} {base g n c : Nat} {M : List Ent} (h : OwnE w base g n c M) (hb : Below w.heap.size w w') : OwnE w' base g n c M := row_below h hb
/-- Where orphans come in: what is held of a round. -/
structure InAt (w : World) (m r rd : Int) (g N c : Nat) (b : Bl) (L1 M : List Ent) (X : World) : Prop where
  pu : PuAt w m r rd (some ⟨g, 0, none⟩) N c b X
  row : OwnE X (w.heap.size + 3) g N c M
  tw : twin L1 M
  inn : ∀ e ∈ M, e.isin = true → Hang r M e.n
section
variable {w X Y : World} {m r rd : Int} {g N c : Nat} {b : Bl} {L1 M : List Ent}
theorem InAt.below (h : InAt w m r rd g N c b L1 M X) (hb : Below X.heap.size X Y) : InAt w m r rd g N c b L1 M Y := ⟨h.pu.below hb, h.row.below hb, h.tw, h.inn⟩
theorem InAt.len (h : InAt w m r rd g N c b L1 M X) : N = M.length := h.row.rd.1
theorem InAt.orph (h : InAt w m r rd g N c b L1 M X) : orphW g X N = Go.Proofs.Ytgclofemhhhepaa.orph M := by
  obtain ⟨hn, hr, _⟩ := h.row.rd
  rw [orphW_is hr N (by omega), hn, List.take_length]
/-- One comes in. -/
theorem InAt.come (h : InAt w m r rd g N c b L1 M X) (h1 : OneN r L1) {k : Nat} (hk : k < M.length) (hi : M[k].isin = false) (hv : hasV r M M[k].p) :
    InAt w m r rd g N c b L1 (setIn M[k].n M) (X.setCell ⟨g, k * 16 + 15, none⟩ (.bool true)) ∧ Go.Proofs.Ytgclofemhhhepaa.orph (setIn M[k].n M) < Go.Proofs.Ytgclofemhhhepaa.orph M := by
  have hM := h.tw.one h1
  obtain ⟨hn, hr, hg, _⟩ := h.row.rd
  have hmem := List.getElem_mem hk
  have tw2 := setIn_twin M[k].n M
  have hp : Hang r M M[k].p := by
    rcases hv with hv | ⟨e, he, hn2, hi2⟩
    · rw [hv]; exact .root
    · rw [← hn2]; exact h.inn e he hi2
  refine ⟨⟨h.pu.cell hg _, h.row.set_ hM.1 hk, h.tw.trans tw2, fun e he hei => ?_⟩, setIn_orph hM.1 hmem rfl hi⟩
  rw [← tw2.hang]
  rcases setIn_mem he with ⟨f, hf, hfn, rfl⟩ | ⟨he2, hne⟩
  · show Hang r M f.n
    rw [hfn]
    exact .up M[k] hmem hp
  · exact h.inn e he2 hei
/-- The end: nothing comes in any more. -/
theorem InAt.end_ (h : InAt w m r rd g N c b L1 M X) (h1 : OneN r L1) (hno : ∀ j (hj : j < M.length), M[j].isin = false → ¬ hasV r M M[j].p) : M = settle r L1 :=
  settle_is h.tw.symm (in_ok (h.tw.one h1) h.inn fun e he hi => by
    obtain ⟨j, hj, rfl⟩ := List.getElem_of_mem he
    exact hno j hj hi)
end
theorem in_start {r : Int} {L : List Ent} {n : Int} {b : Bl} (h : InOk r L) (hv : hasV r L b.p) : ∀ e ∈ L ++ [⟨n, b, true⟩], e.isin = true → Hang r (L ++ [⟨n, b, true⟩]) e.n := by
  have on : ∀ {k : Int}, Hang r L k → Hang r (L ++ [⟨n, b, true⟩]) k := fun g => g.mono fun e he => ⟨e, List.mem_append_left _ he, rfl, rfl⟩
  intro e he hi
  rcases List.mem_append.1 he with he | he
  · exact on ((h e he).1 hi)
  · obtain rfl : e = ⟨n, b, true⟩ := by simpa using he
    exact .up (L := L ++ [⟨n, b, true⟩]) ⟨n, b, true⟩ (by simp) (on ((has_hang h).1 hv))
theorem rt_newE {A : Option Addr} {w X : World} {m r rd k : Int} {L : List Ent} {g n c g9 B : Nat} (hr : OwnE X B g9 n c L) (hb : Below w.heap.size w X) (hg : w.heap.size ≤ g) (hB : g < B) :
    RTPost A ⟨m, r, rd, L⟩ k w (.returned (.tuple #[.agg (rtC m r rd (some ⟨g9, 0, none⟩) n c), .int .i64 k])) (X.setRow g (rtC m r rd (some ⟨g9, 0, none⟩) n c)) :=
  rt_new (M := ⟨m, r, rd, L⟩) hr.rd.1 hr hb hg hB
theorem own_frozen {w : World} {base g n c : Nat} {M : List Ent} (h : OwnE w base g n c M) (i : Nat) : w.frozen? ⟨g, i, none⟩ = false := by
  obtain ⟨_, h | ⟨g', cap, cur, hv, _, hb, _⟩⟩ := h
  · cases h.1
  · injection hv with h1 _ _
    injection h1 with h1
    injection h1 with h1
    subst h1
    exact Blk.frozen (show Blk w g _ cur from hb) i
theorem add_at {ad : Addr} {g i : Nat} (h : ad = ⟨g, 0, none⟩) (j : Nat) : (⟨(ad.add i).block, (ad.add i).off + j, none⟩ : Addr) = ⟨g, i + j, none⟩ := by
  subst h
  unfold Addr.add
  split
  · next h0 => simp [h0]
  · simp
end Go.Proofs.Ytgclofemhhhepaa
