/-
  Two trees, a list of blocks and a list of numbers side by side in memory.
-/
import Derived.Test.YtgepokdilieodaaOrdP
set_option linter.unusedSimpArgs false
set_option linter.unusedVariables false
set_option maxRecDepth 10000
namespace Go.Proofs.Ytgepokdilieodaa
open Go.RowKit Go.Maps Go.Lib
open L3 (Blk Reads)
open L6 (Turn moreB fresh From In)

def blL (b : Bl) : List Value := [.int .i64 b.v, .int .i64 b.rd, .int .i64 0, .int .i64 0, .int .i64 0, .int .i64 b.p, .int .i64 0, .int .i64 b.pr, .int .i64 0, .int .i64 0, .int .u32 0, .int .u32 0, .slice none 0 0, .slice none 0 0]
theorem blL_len (b : Bl) : (blL b).length = 14 := rfl
theorem one_blL (b : Bl) : ∀ u ∈ blL b, u.oneCell' = true := by
  intro u hu
  unfold blL at hu
  simp only [List.mem_cons, List.not_mem_nil, or_false] at hu
  rcases hu with rfl | rfl | rfl | rfl | rfl | rfl | rfl | rfl | rfl | rfl | rfl | rfl | rfl | rfl <;> rfl
theorem blkInfo3 : (Try.prog.info? 39).map (fun i => (i.zero, i.size, i.bytes)) = some (some (.agg (blC zeroBl)), 14, 136) := by kernel_rfl
theorem slice_bl (b : Bl) (w : World) : (Instr.buildSlice 49 1 #[(0, .agg (blC b))]).run Try.prog w = .ok (.slice (some ⟨w.heap.size, 0, none⟩) 1 1) (w.alloc (.cells (blC b) 39)) := by kernel_rfl
/-- In w the slice v owns these blocks. -/
abbrev OwnB (w : World) (base : Nat) (v : Value) (Bs : List Bl) : Prop := w.ownsRow base 39 14 v Bs.length (Bs.flatMap blL)
theorem flat_snoc {α β : Type} (L : List α) (x : α) (f : α → List β) : (L ++ [x]).flatMap f = L.flatMap f ++ f x := by simp
theorem rows_ne {w : World} {b1 b2 : Nat} {e1 e2 : TypeId} {s1 s2 n1 n2 : Nat} {v1 v2 : Value} {x1 x2 : List Value} (h1 : w.ownsRow b1 e1 s1 v1 n1 x1) (h2 : w.ownsRow b2 e2 s2 v2 n2 x2) (hne : e1 ≠ e2) : v2.ownBlock = none ∨ v2.ownBlock ≠ v1.ownBlock := by
  rcases h2.2 with ⟨rfl, _⟩ | ⟨g2, _, _, rfl, _, hh2, _⟩
  · exact .inl rfl
  · right
    intro e
    rcases h1.2 with ⟨rfl, _⟩ | ⟨g1, _, _, rfl, _, hh1, _⟩
    · cases e
    · have hg : g2 = g1 := by simpa [Value.ownBlock] using e
      subst hg
      rw [hh1] at hh2
      injection hh2 with hh2
      injection hh2 with _ h3
      exact hne h3
/-- A block of a list that the call owns. -/
theorem OwnB.at_ {w : World} {base : Nat} {v : Value} {Bs : List Bl} (h : OwnB w base v Bs) : ∃ A c, v = .slice A Bs.length c ∧ Rd blL 14 w A Bs := by
  obtain ⟨A, c, rfl, hr, _⟩ := Rd.of_row blL_len h
  exact ⟨A, c, rfl, hr⟩
theorem OwnB.slice {w : World} {base : Nat} {v : Value} {Bs : List Bl} {n : Nat} (h : OwnB w base v Bs) (hn : Bs.length = n) : ∃ A c, v = .slice A n c ∧ Rd blL 14 w A Bs := by
  obtain ⟨A, c, rfl, hr⟩ := h.at_
  exact ⟨A, c, by rw [hn], hr⟩
theorem OwnI.slice {w : World} {base : Nat} {v : Value} {l : List Int} {n : Nat} (h : OwnI w base v l) (hn : l.length = n) : ∃ A c, v = .slice A n c ∧ n ≤ c ∧ Reads w w.heap.size 1 A n (l.map (Value.int .i64)) := by
  obtain ⟨A, c, rfl, hc, hr⟩ := L6.row_reads h
  exact ⟨A, c, by rw [hn], by rw [← hn]; exact hc, by rw [← hn]; exact hr⟩
/-- A row with something in it, opened. -/
theorem row_open {w : World} {base n c : Nat} {A : Option Addr} {l : List Int} (h : OwnI w base (.slice A n c) l) (hn : l.length = n) (h0 : 0 < n) :
    ∃ g cur, A = some ⟨g, 0, none⟩ ∧ Blk w g 3 cur ∧ base ≤ g ∧ cur.size = c ∧ n ≤ c ∧ cur.toList.take n = l.map (Value.int .i64) := by
  rcases h.2 with ⟨he, hz⟩ | ⟨g, cap, cur, he, hg, hh, h1, _, h3, h4⟩
  · omega
  · injection he with hA hl hc
    subst hc
    rw [hn] at h1 h4
    exact ⟨g, cur, hA, hh, hg, by omega, h1, by simpa using h4⟩
theorem row_cell {w : World} {g n : Nat} {cur : Array Value} {l : List Int} (hb : Blk w g 3 cur) (ht : cur.toList.take n = l.map (Value.int .i64)) {j : Nat} (hj : j < l.length) : w.cell? ⟨g, j, none⟩ = some (.int .i64 l[j]) := by
  rw [hb.cell j, ← Array.getElem?_toList]
  have h1 : (cur.toList.take n)[j]? = (l.map (Value.int .i64))[j]? := by rw [ht]
  rw [List.getElem?_map, List.getElem?_eq_getElem hj, Option.map_some] at h1
  have hjn : j < n := by
    have := congrArg List.length ht
    rw [List.length_take, List.length_map] at this
    omega
  rw [List.getElem?_take_of_lt hjn] at h1
  exact h1
/-- Two numbers stored into it. -/
theorem row_swap {w w' : World} {base n c g : Nat} {l : List Int} {cur : Array Value} (hb : Blk w g 3 cur) (hg : base ≤ g) (hc : cur.size = c) (hn : n ≤ c) (hl : l.length = n) (hcm : c ≤ maxLen) (ht : cur.toList.take n = l.map (Value.int .i64)) (x y : Nat) (a b : Int)
    (hw : Blk w' g 3 ((cur.setIfInBounds x (.int .i64 a)).setIfInBounds y (.int .i64 b))) : OwnI w' base (.slice (some ⟨g, 0, none⟩) n c) ((l.set x a).set y b) := by
  have e : ((l.set x a).set y b).length = n := by simp [hl]
  unfold OwnI
  rw [e]
  refine ⟨by simp [hl], .inr ⟨g, c, _, rfl, hg, hw, hn, hcm, by simp [hc], ?_⟩⟩
  rw [Nat.mul_one, Array.toList_setIfInBounds, Array.toList_setIfInBounds, List.take_set, List.take_set, ht, List.map_set, List.map_set]
theorem add_field (a : Addr) (i f : Nat) (hf : 0 < f) : (a.add i).add f = ⟨(a.add i).block, (a.add i).off + f, none⟩ := by
  unfold Addr.add
  split <;> (try split) <;> simp_all <;> omega
/-- One block of a list: two of its cells, and all. -/
theorem Rd.block {w : World} {A : Option Addr} {Bs : List Bl} (h : Rd blL 14 w A Bs) {j : Nat} (hj : j < Bs.length) : ∃ ad, A = some ad ∧ ad.block < w.heap.size ∧ w.cell? ⟨(ad.add (j * 14)).block, (ad.add (j * 14)).off + 1, none⟩ = some (.int .i64 Bs[j].rd) ∧ w.cell? ⟨(ad.add (j * 14)).block, (ad.add (j * 14)).off + 5, none⟩ = some (.int .i64 Bs[j].p) ∧ ∀ i u, (blL Bs[j])[i]? = some u → w.cell? ((ad.add (j * 14)).add i) = some u := by
  obtain ⟨ad, hA, hl, hc⟩ := h j hj
  exact ⟨ad, hA, hl, by rw [← add_field _ _ _ (by decide)]; exact hc 1 _ rfl, by rw [← add_field _ _ _ (by decide)]; exact hc 5 _ rfl, hc⟩
theorem ownI_cell {w : World} {base n c : Nat} {ad : Addr} {l : List Int} (h : OwnI w base (.slice (some ad) n c) l) {j : Nat} (hj : j < l.length) : w.cell? (ad.add j) = some (.int .i64 l[j]) := by
  obtain ⟨A, c', he, _, hr⟩ := L6.row_reads h
  injection he with hA hn hc
  subst hA
  obtain ⟨ad2, u, h2, _, hu, hcell⟩ := hr.at_ hj
  injection h2 with h2
  subst h2
  rw [List.getElem?_map, List.getElem?_eq_getElem hj] at hu
  rw [hcell, ← hu]
  rfl
theorem ownI_ad {w : World} {base n c : Nat} {A : Option Addr} {l : List Int} (h : OwnI w base (.slice A n c) l) (h0 : 0 < l.length) : ∃ ad, A = some ad := by
  obtain ⟨A', c', he, _, hr⟩ := L6.row_reads h
  injection he with hA hn hc
  subst hA
  obtain ⟨ad, _, h1, _⟩ := hr.at_ h0
  exact ⟨ad, h1⟩
theorem ownB_ad {w : World} {base n c : Nat} {A : Option Addr} {Bs : List Bl} (h : OwnB w base (.slice A n c) Bs) (h0 : 0 < Bs.length) : ∃ ad, A = some ad := by
  obtain ⟨A', c', he, hr⟩ := h.at_
  injection he with hA hn hc
  subst hA
  obtain ⟨ad, h1, _⟩ := hr.block h0
  exact ⟨ad, h1⟩
/-- Both rows are there. -/
def RowsAt (B0 : Nat) (vl vo : Value) (Bs : List Bl) (zs : List Int) (W : World) : Prop := OwnB W B0 vl Bs ∧ OwnI W B0 vo zs
theorem ownB_cells {w : World} {base n c : Nat} {ad : Addr} {Bs : List Bl} (h : OwnB w base (.slice (some ad) n c) Bs) {j : Nat} (hj : j < Bs.length) : ∀ i u, (blL Bs[j])[i]? = some u → w.cell? ((ad.add (j * 14)).add i) = some u := by
  obtain ⟨A, c', he, hr⟩ := h.at_
  injection he with hA hn hc
  subst hA
  obtain ⟨ad2, h2, _, _, _, hall⟩ := hr.block hj
  injection h2 with h2
  subst h2
  exact hall
/-- What stands side by side. -/
structure OrdA (w : World) (B0 : Nat) (Sa Sb : Nat → Prop) (ga gb : Nat) (Ls Bs : List Bl) (zs : List Int) (sb : TS) (vl vo : Value) (wr : World) : Prop where
  l : OwnB wr B0 vl Ls
  o : OwnI wr B0 vo zs
  a : Tr wr Sa ga (treeT Bs)
  b : Tr wr Sb gb sb
  below : Below w.heap.size w wr
  size : B0 ≤ wr.heap.size
/-- Where all this lies. -/
structure OrdG (w : World) (B0 : Nat) (Sa Sb : Nat → Prop) : Prop where
  a : ∀ k, Sa k → w.heap.size ≤ k ∧ k < B0
  b : ∀ k, Sb k → w.heap.size ≤ k ∧ k < B0
  ne : ∀ k, Sa k → ¬ Sb k
  le : w.heap.size ≤ B0
section
variable {w : World} {B0 : Nat} {Sa Sb : Nat → Prop} {ga gb : Nat} {Ls Bs : List Bl} {zs : List Int} {sb : TS} {vl vo : Value} {wr w' : World}
theorem OrdA.keep (h : OrdA w B0 Sa Sb ga gb Ls Bs zs sb vl vo wr) (hb : Below wr.heap.size wr w') : OrdA w B0 Sa Sb ga gb Ls Bs zs sb vl vo w' :=
  ⟨L6.Turn.row (S := fun _ => False) (L6.Turn.of_keep hb) h.l (fun _ _ h => h), L6.Turn.row (S := fun _ => False) (L6.Turn.of_keep hb) h.o (fun _ _ h => h), h.a.below hb, h.b.below hb, nxt h.below hb, Nat.le_trans h.size hb.size⟩
theorem OrdA.drew (h : OrdA w B0 Sa Sb ga gb Ls Bs zs sb vl vo wr) (q : Nat) : OrdA w B0 Sa Sb ga gb Ls Bs zs sb vl vo (wr.drewN q) := h.keep (L6.below_drewN (Below.refl _ _) q)
theorem OrdA.drew1 (h : OrdA w B0 Sa Sb ga gb Ls Bs zs sb vl vo wr) : OrdA w B0 Sa Sb ga gb Ls Bs zs sb vl vo wr.drew := h.keep (L6.below_drew (Below.refl _ _))
theorem OrdA.inA (h : OrdA w B0 Sa Sb ga gb Ls Bs zs sb vl vo wr) (hg : OrdG w B0 Sa Sb) : In wr Sa := fun k hk => Nat.lt_of_lt_of_le (hg.a k hk).2 h.size
theorem OrdA.inB (h : OrdA w B0 Sa Sb ga gb Ls Bs zs sb vl vo wr) (hg : OrdG w B0 Sa Sb) : In wr Sb := fun k hk => Nat.lt_of_lt_of_le (hg.b k hk).2 h.size
/-- What turns high blocks alone leaves the trees as they are. -/
theorem OrdA.high (h : OrdA w B0 Sa Sb ga gb Ls Bs zs sb vl vo wr) (hg : OrdG w B0 Sa Sb) {row : Option Nat} (ht : wr.grownBy w' row) (hr : ∀ j, row = some j → B0 ≤ j) : Tr w' Sa ga (treeT Bs) ∧ Tr w' Sb gb sb ∧ Below w.heap.size w w' ∧ B0 ≤ w'.heap.size := by
  have t : Turn (fun k => B0 ≤ k) wr w' := L6.Turn.of_grown ht hr
  exact ⟨h.a.kept t (fun k _ hk hq => by have := (hg.a k hk).2; omega), h.b.kept t (fun k _ hk hq => by have := (hg.b k hk).2; omega), h.below.grown ht h.below.size (fun j hj => Nat.le_trans hg.le (hr j hj)), Nat.le_trans h.size ht.size⟩
/-- Tree a has turned. -/
theorem OrdA.turnA (h : OrdA w B0 Sa Sb ga gb Ls Bs zs sb vl vo wr) (hg : OrdG w B0 Sa Sb) (ht : Turn Sa wr w') {Bs' : List Bl} (ha : Tr w' Sa ga (treeT Bs')) : OrdA w B0 Sa Sb ga gb Ls Bs' zs sb vl vo w' :=
  ⟨ht.row h.l (fun k hk hs => by have := (h.l.lt k hk).1; have := (hg.a k hs).2; omega), ht.row h.o (fun k hk hs => by have := (h.o.lt k hk).1; have := (hg.a k hs).2; omega), ha, h.b.kept ht (fun k _ hb ha => hg.ne k ha hb), h.below.trans (ht.below (fun k hk => (hg.a k hk).1) h.below.size), Nat.le_trans h.size ht.size⟩
/-- Tree b has turned. -/
theorem OrdA.turnB (h : OrdA w B0 Sa Sb ga gb Ls Bs zs sb vl vo wr) (hg : OrdG w B0 Sa Sb) (ht : Turn Sb wr w') {sb' : TS} (hb : Tr w' Sb gb sb') : OrdA w B0 Sa Sb ga gb Ls Bs zs sb' vl vo w' :=
  ⟨ht.row h.l (fun k hk hs => by have := (h.l.lt k hk).1; have := (hg.b k hs).2; omega), ht.row h.o (fun k hk hs => by have := (h.o.lt k hk).1; have := (hg.b k hs).2; omega), h.a.kept ht (fun k _ ha hb => hg.ne k ha hb), hb, h.below.trans (ht.below (fun k hk => (hg.b k hk).1) h.below.size), Nat.le_trans h.size ht.size⟩
/-- A number more: w1 is wr with a cell more, w' what the append left. -/
theorem OrdA.appO (h : OrdA w B0 Sa Sb ga gb Ls Bs zs sb vl vo wr) (hg : OrdG w B0 Sa Sb) {ob : Obj} (ht : (wr.alloc ob).grownBy w' vo.ownBlock) {v' : Value} {zs' : List Int} (hn : OwnI w' B0 v' zs') : OrdA w B0 Sa Sb ga gb Ls Bs zs' sb vl v' w' := by
  have h1 := h.keep ((Below.refl _ wr).alloc (Nat.le_refl _) ob)
  obtain ⟨a1, a2, a3, a4⟩ := h1.high hg ht (fun j hj => (h1.o.lt j hj).1)
  exact ⟨h1.l.kept ht (rows_ne h1.o h1.l (by decide)), hn, a1, a2, a3, a4⟩
/-- A block more in the list. -/
theorem OrdA.appL (h : OrdA w B0 Sa Sb ga gb Ls Bs zs sb vl vo wr) (hg : OrdG w B0 Sa Sb) {ob : Obj} (ht : (wr.alloc ob).grownBy w' vl.ownBlock) {v' : Value} {Ls' : List Bl} (hn : OwnB w' B0 v' Ls') : OrdA w B0 Sa Sb ga gb Ls' Bs zs sb v' vo w' := by
  have h1 := h.keep ((Below.refl _ wr).alloc (Nat.le_refl _) ob)
  obtain ⟨a1, a2, a3, a4⟩ := h1.high hg ht (fun j hj => (h1.l.lt j hj).1)
  exact ⟨hn, h1.o.kept ht (rows_ne h1.l h1.o (by decide)), a1, a2, a3, a4⟩
theorem grown_set2 (w : World) (g x y : Nat) (a b : Value) : w.grownBy ((w.setCell ⟨g, x, none⟩ a).setCell ⟨g, y, none⟩ b).drew (some g) :=
  ⟨rfl, rfl, rfl, by simp [World.setCell], fun i hi hne => by
    have h1 : g ≠ i := fun e => hne (by rw [e])
    show ((w.setCell ⟨g, x, none⟩ a).setCell ⟨g, y, none⟩ b).heap[i]? = _
    rw [Below.heap_setCell _ _ _ _ (fun e => h1 e.symm), Below.heap_setCell _ _ _ _ (fun e => h1 e.symm)]⟩
/-- The numbers have turned within their row. -/
theorem OrdA.turnO (h : OrdA w B0 Sa Sb ga gb Ls Bs zs sb vl vo wr) (hg : OrdG w B0 Sa Sb) {g : Nat} (hv : vo.ownBlock = some g) (ht : wr.grownBy w' (some g)) {zs' : List Int} (hn : OwnI w' B0 vo zs') : OrdA w B0 Sa Sb ga gb Ls Bs zs' sb vl vo w' := by
  obtain ⟨a1, a2, a3, a4⟩ := h.high hg ht (fun j hj => (h.o.lt j (by rw [hv]; exact hj)).1)
  exact ⟨h.l.kept ht (by have := rows_ne h.o h.l (by decide); rw [hv] at this; exact this), hn, a1, a2, a3, a4⟩
end
/-- Path of a tree that has all of them. -/
theorem path_done {w : World} {S : Nat → Prop} {g : Nat} {s : TS} {Bs : List Bl} (h : Tr w S g s) (hd : DoneB Bs s) (hl : s.L.length ≤ 100000) {mm : Nat} (hm : mm < Bs.length) (hB : Bs.length ≤ 100) {p : List Int} (hp : PathIs 0 (entsT Bs) ((mm : Int) + 1) p) :
    Calls Try.prog 17 #[.pointer (some ⟨g, 0, none⟩), .int .i64 ((mm : Int) + 1)] w fun e w' => ∃ v, e = .returned (.tuple #[v, .int .i64 0]) ∧ OwnI w' w.heap.size v p ∧ Below w.heap.size w w' := by
  have h0 := hd.lack (mm + 1) (by omega) (by omega)
  rw [show ((mm + 1 : Nat) : Int) = (mm : Int) + 1 by omega] at h0
  refine (path_ok h hd.wf hl ((mm : Int) + 1) (inI_of (by omega) (by omega)) h0).mono ?_
  rintro e w' ⟨v, l, he, hq, ho, hb⟩
  rw [hd.root] at hq
  have : l = p := path_one (entsT_one Bs) (hd.path hq) hp
  subst this
  exact ⟨v, he, ho, hb⟩
theorem len_done {w : World} {S : Nat → Prop} {g : Nat} {s : TS} {Bs : List Bl} (h : Tr w S g s) (hd : DoneB Bs s) {n : Nat} (hn : Bs.length = n) : Calls Try.prog 15 #[.pointer (some ⟨g, 0, none⟩)] w (gives (.tuple #[.int .i64 n, .int .i64 0]) w) := by
  have := len_any h hd.wf.one hd.wf.n
  rw [hd.inn, hd.out, hn] at this
  exact this
theorem missing_done {w : World} {S : Nat → Prop} {g : Nat} {s : TS} {Bs : List Bl} (h : Tr w S g s) (hd : DoneB Bs s) (hl : s.L.length ≤ 100000) : Calls Try.prog 16 #[.pointer (some ⟨g, 0, none⟩)] w fun e w' => ∃ A c, e = .returned (.slice A 0 c) ∧ Below w.heap.size w w' := by
  refine (missing_any h hd.wf.one.1 hd.wf.n hd.wf.b hl).mono ?_
  rintro e w' ⟨v, l, he, _, hm, ho, hb⟩
  have : l = [] := List.eq_nil_iff_forall_not_mem.2 fun k hk => hd.miss k ((hm k).1 hk)
  subst this
  obtain ⟨A, c, rfl, _⟩ := L6.row_reads ho
  exact ⟨A, c, he, hb⟩
end Go.Proofs.Ytgepokdilieodaa
