/-
  The program's tree and the document's, side by side, through a round of calls.
-/
import Derived.Test.YtgclofemhhhepaaShows
set_option linter.unusedSimpArgs false
set_option linter.unusedVariables false
set_option maxRecDepth 10000
namespace Go.Proofs.Ytgclofemhhhepaa
open Go.RowKit Go.Maps Go.Lib
open L3 (Blk Reads block_of_add add_of_add)
open L6 (Turn moreB fresh From In)

/-- The program's tree (s) and the document's (M). -/
structure PlAt (w : World) (g gm : Nat) (s M : TS) (S : Nat → Prop) (A : Option Addr) (c : Nat) (wx : World) : Prop where
  tr : Tr wx S g s
  inn : In wx S
  frm : From w.heap.size S
  bw : Below w.heap.size w wx
  mb : Blk wx gm 30 (rtC M.most M.root M.round A M.L.length c)
  rd : Rd enL 16 wx A M.L
  off : ∀ ad, A = some ad → ¬ S ad.block ∧ ad.block < wx.heap.size ∧ ad.block ≠ gm
  ngm : ¬ S gm
  geg : w.heap.size ≤ gm
section
variable {w wx wy : World} {g gm : Nat} {s s' M M' : TS} {S : Nat → Prop} {A A' : Option Addr} {c c' : Nat}
theorem PlAt.below (h : PlAt w g gm s M S A c wx) (hb : Below wx.heap.size wx wy) : PlAt w g gm s M S A c wy :=
  ⟨h.tr.below hb, h.inn.le hb.size, h.frm, nxt h.bw hb, h.mb.below hb h.mb.lt, h.rd.below hb, fun ad e => ⟨(h.off ad e).1, Nat.lt_of_lt_of_le (h.off ad e).2.1 hb.size, (h.off ad e).2.2⟩, h.ngm, h.geg⟩
/-- The program's tree has turned, and has new blocks. -/
theorem PlAt.turn (h : PlAt w g gm s M S A c wx) (hp : Tr wy (moreB S wx wy) g s') (ht : Turn S wx wy) : PlAt w g gm s' M (moreB S wx wy) A c wy := by
  have hs := ht.size
  have hgl := h.mb.lt
  exact ⟨hp, h.inn.more hs, h.frm.more h.bw.size, L6.nxtT h.bw ht h.frm, ht.blk h.mb h.ngm, h.rd.kept ht (fun ad e => (h.off ad e).1),
    fun ad e => ⟨fun hk => hk.elim (h.off ad e).1 (fun hk => by have := hk.1; have := (h.off ad e).2.1; omega), Nat.lt_of_lt_of_le (h.off ad e).2.1 hs, (h.off ad e).2.2⟩, fun hk => hk.elim h.ngm (fun hk => by have := hk.1; omega), h.geg⟩
/-- The document's tree is another one. -/
theorem PlAt.doc (h : PlAt w g gm s M S A c wx) (hb : Below wx.heap.size wx wy) (hr : Rd enL 16 wy A' M'.L) (hA : ∀ ad, A' = some ad → A = some ad ∨ (wx.heap.size ≤ ad.block ∧ ad.block < wy.heap.size)) :
    PlAt w g gm s M' S A' c' (wy.setRow gm (rtC M'.most M'.root M'.round A' M'.L.length c')) := by
  have h1 := h.below hb
  have ht := turn_row wy gm (rtC M'.most M'.root M'.round A' M'.L.length c')
  have hgl := h.mb.lt
  have hof : ∀ ad, A' = some ad → ¬ S ad.block ∧ ad.block < wy.heap.size ∧ ad.block ≠ gm := fun ad e => by
    rcases hA ad e with e | ⟨e1, e2⟩
    · exact h1.off ad e
    · exact ⟨fun hk => by have := h.inn _ hk; omega, e2, by omega⟩
  exact ⟨h1.tr.kept ht (fun k _ hk e => h.ngm (e ▸ hk)), h1.inn.le ht.size, h.frm, below_setRow h1.bw h.geg, blk_setRow h1.mb, hr.kept ht (fun ad e => (hof ad e).2.2), fun ad e => ⟨(hof ad e).1, Nat.lt_of_lt_of_le (hof ad e).2.1 ht.size, (hof ad e).2.2⟩, h.ngm, h.geg⟩
end
/-- An act as a value. -/
def actC (a : Actx) : Array Value := #[.int .i64 a.kind, .int .i64 a.n, .int .i64 a.rd, .int .i64 a.par]
def actL (a : Actx) : List Value := [.int .i64 a.kind, .int .i64 a.n, .int .i64 a.rd, .int .i64 a.par]
theorem actInfo : (Try.prog.info? 32).map (·.size) = some 4 := by kernel_rfl
theorem actC_ones (a : Actx) : (actC a).all (·.oneCell') = true := by kernel_rfl
theorem Acts.cells {w : World} {A : Option Addr} {n : Nat} {D : Nat → Actx} (h : Acts w A n D) {k : Nat} (hk : k < n) : ∃ ad, A = some ad ∧ ad.block < w.heap.size ∧ (∀ j u, (actL (D k))[j]? = some u → w.cell? ((ad.add (k * 4)).add j) = some u) ∧ (D k).fit := by
  obtain ⟨ad, hA, hl, h0, h1, h2, h3, hf⟩ := h k hk
  refine ⟨ad, hA, hl, fun j u hj => ?_, hf⟩
  rw [add_of_add]
  match j, hj with
  | 0, hj => rw [← Option.some.inj hj]; exact h0
  | 1, hj => rw [← Option.some.inj hj]; exact h1
  | 2, hj => rw [← Option.some.inj hj]; exact h2
  | 3, hj => rw [← Option.some.inj hj]; exact h3
  | j + 4, hj => simp [actL] at hj
/-- .. and a round's own blocks: the act's, and its block's. -/
structure RnAt (w : World) (g gm p q : Nat) (s M : TS) (S : Nat → Prop) (A : Option Addr) (c : Nat) (a : Actx) (b : Bl) (wx : World) : Prop where
  py : PlAt w g gm s M S A c wx
  act : Blk wx p 32 (actC a)
  bl : Blk wx q 39 (blC b)
  np : ¬ S p
  nq : ¬ S q
  pg : p ≠ gm
  qg : q ≠ gm
section
variable {w wx wy : World} {g gm p q : Nat} {s s' M M' : TS} {S : Nat → Prop} {A A' : Option Addr} {c c' : Nat} {a : Actx} {b : Bl}
theorem RnAt.below (h : RnAt w g gm p q s M S A c a b wx) (hb : Below wx.heap.size wx wy) : RnAt w g gm p q s M S A c a b wy :=
  ⟨h.py.below hb, h.act.below hb h.act.lt, h.bl.below hb h.bl.lt, h.np, h.nq, h.pg, h.qg⟩
theorem RnAt.turn (h : RnAt w g gm p q s M S A c a b wx) (hp : Tr wy (moreB S wx wy) g s') (ht : Turn S wx wy) : RnAt w g gm p q s' M (moreB S wx wy) A c a b wy := by
  have h1 := h.act.lt
  have h2 := h.bl.lt
  exact ⟨h.py.turn hp ht, ht.blk h.act h.np, ht.blk h.bl h.nq, fun hk => hk.elim h.np (fun hk => by have := hk.1; omega), fun hk => hk.elim h.nq (fun hk => by have := hk.1; omega), h.pg, h.qg⟩
theorem RnAt.doc (h : RnAt w g gm p q s M S A c a b wx) (hb : Below wx.heap.size wx wy) (hr : Rd enL 16 wy A' M'.L) (hA : ∀ ad, A' = some ad → A = some ad ∨ (wx.heap.size ≤ ad.block ∧ ad.block < wy.heap.size)) :
    RnAt w g gm p q s M' S A' c' a b (wy.setRow gm (rtC M'.most M'.root M'.round A' M'.L.length c')) := by
  have ht := turn_row wy gm (rtC M'.most M'.root M'.round A' M'.L.length c')
  exact ⟨h.py.doc hb hr hA, ht.blk (h.act.below hb h.act.lt) h.pg, ht.blk (h.bl.below hb h.bl.lt) h.qg, h.np, h.nq, h.pg, h.qg⟩
/-- A tree's block and an empty one behind the program's tree. -/
theorem RnAt.drew (h : RnAt w g gm p q s M S A c a b wx) : RnAt w g gm p q s M S A c a b wx.drew := h.below (Below.refl _ _).drew
end
/-- .. where the round has no block of its own. -/
structure RpAt (w : World) (g gm p : Nat) (s M : TS) (S : Nat → Prop) (A : Option Addr) (c : Nat) (a : Actx) (wx : World) : Prop where
  py : PlAt w g gm s M S A c wx
  act : Blk wx p 32 (actC a)
  np : ¬ S p
  pg : p ≠ gm
section
variable {w wx wy : World} {g gm p q : Nat} {s s' M M' : TS} {S : Nat → Prop} {A A' : Option Addr} {c c' : Nat} {a : Actx} {b : Bl}
theorem RpAt.below (h : RpAt w g gm p s M S A c a wx) (hb : Below wx.heap.size wx wy) : RpAt w g gm p s M S A c a wy :=
  ⟨h.py.below hb, h.act.below hb h.act.lt, h.np, h.pg⟩
theorem RpAt.turn (h : RpAt w g gm p s M S A c a wx) (hp : Tr wy (moreB S wx wy) g s') (ht : Turn S wx wy) : RpAt w g gm p s' M (moreB S wx wy) A c a wy := by
  have h1 := h.act.lt
  exact ⟨h.py.turn hp ht, ht.blk h.act h.np, fun hk => hk.elim h.np (fun hk => by have := hk.1; omega), h.pg⟩
theorem RpAt.doc (h : RpAt w g gm p s M S A c a wx) (hb : Below wx.heap.size wx wy) (hr : Rd enL 16 wy A' M'.L) (hA : ∀ ad, A' = some ad → A = some ad ∨ (wx.heap.size ≤ ad.block ∧ ad.block < wy.heap.size)) :
    RpAt w g gm p s M' S A' c' a (wy.setRow gm (rtC M'.most M'.root M'.round A' M'.L.length c')) := by
  have ht := turn_row wy gm (rtC M'.most M'.root M'.round A' M'.L.length c')
  exact ⟨h.py.doc hb hr hA, ht.blk (h.act.below hb h.act.lt) h.pg, h.np, h.pg⟩
/-- A new block of the round's own. -/
theorem RpAt.start (h : PlAt w g gm s M S A c wx) (a : Actx) : RpAt w g gm wx.heap.size s M S A c a (wx.alloc (.cells (actC a) 32)) :=
  ⟨h.below (below_new _ _), Blk.new _ _ _, fun hk => by have := h.inn _ hk; omega, by have := h.mb.lt; omega⟩
theorem RpAt.block (h : RpAt w g gm p s M S A c a wx) (b : Bl) : RnAt w g gm p wx.heap.size s M S A c a b (wx.alloc (.cells (blC b) 39)) :=
  have h2 := h.below (below_new wx (.cells (blC b) 39))
  ⟨h2.py, h2.act, Blk.new _ _ _, h.np, fun hk => by have := h.py.inn _ hk; omega, h.pg, by have := h.py.mb.lt; omega⟩
/-- The two show the same. -/
theorem PlAt.shows (h : PlAt w g gm s s S A c wx) (hs : s.wf) (hl : s.L.length ≤ 100000) (n : Int) (hn : inI n) : Calls Try.prog 14 #[.pointer (some ⟨g, 0, none⟩), .agg (rtC s.most s.root s.round A s.L.length c), .int .i64 n] wx (gives (.bool true) wx) :=
  shows_any h.tr hs hl A c h.rd n hn
end
theorem build_rt1 (m : Int) (w : World) : (Instr.build 30 #[(0, .int .i64 m)]).run Try.prog w = .ok (.agg (rtC m 0 0 none 0 0)) w := run_build w _ _ _ (by kernel_rfl)
/-- How a round of the law begins. -/
structure Sts (k : Nat) (s : TS) : Prop where
  wf : s.wf
  len : s.L.length ≤ k
end Go.Proofs.Ytgclofemhhhepaa
