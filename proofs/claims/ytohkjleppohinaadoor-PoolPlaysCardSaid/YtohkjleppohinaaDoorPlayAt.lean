/-
  The code's pool and the document's, side by side, through a round of calls.
-/
import Derived.Test.YtohkjleppohinaaDoorWalkBatch
set_option linter.unusedSimpArgs false
set_option linter.unusedVariables false
set_option maxRecDepth 10000
namespace Go.Proofs.YtohkjleppohinaaDoor
open Go.RowKit Go.Lib
open L3 (Blk Reads block_of_add add_of_add)
open L6 (Turn moreB fresh From In)

/-- The code's pool (of L) and the document's (of M). -/
structure PlayAt (w : World) (g gm : Nat) (most : Int) (L M : List Txx) (S : Nat → Prop) (A : Option Addr) (c : Nat) (wx : World) : Prop where
  pl : Pl wx S g most L
  inn : In wx S
  frm : From w.heap.size S
  bw : Below w.heap.size w wx
  mb : Blk wx gm 30 (plC most A M.length c)
  rd : Rd txL 7 wx A M
  off : ∀ ad, A = some ad → ¬ S ad.block ∧ ad.block < wx.heap.size ∧ ad.block ≠ gm
  ngm : ¬ S gm
  geg : w.heap.size ≤ gm
theorem PlayAt.below {w wx wy : World} {g gm : Nat} {most : Int} {L M : List Txx} {S : Nat → Prop} {A : Option Addr} {c : Nat} (h : PlayAt w g gm most L M S A c wx) (hb : Below wx.heap.size wx wy) : PlayAt w g gm most L M S A c wy :=
  ⟨h.pl.below hb, h.inn.le hb.size, h.frm, nxt h.bw hb, h.mb.below hb h.mb.lt, h.rd.below hb, fun ad e => ⟨(h.off ad e).1, Nat.lt_of_lt_of_le (h.off ad e).2.1 hb.size, (h.off ad e).2.2⟩, h.ngm, h.geg⟩
/-- The code's pool has turned. -/
theorem PlayAt.turn {w wx wy : World} {g gm : Nat} {most : Int} {L L' M : List Txx} {S : Nat → Prop} {A : Option Addr} {c : Nat} (h : PlayAt w g gm most L M S A c wx) (hp : Pl wy (moreB S wx wy) g most L') (ht : Turn S wx wy) : PlayAt w g gm most L' M (moreB S wx wy) A c wy := by
  have hs := ht.size
  have hgl := h.mb.lt
  exact ⟨hp, h.inn.more hs, h.frm.more h.bw.size, L6.nxtT h.bw ht h.frm, ht.blk h.mb h.ngm, h.rd.kept ht (fun ad e => (h.off ad e).1),
    fun ad e => ⟨fun hk => hk.elim (h.off ad e).1 (fun hk => by have := hk.1; have := (h.off ad e).2.1; omega), Nat.lt_of_lt_of_le (h.off ad e).2.1 hs, (h.off ad e).2.2⟩, fun hk => hk.elim h.ngm (fun hk => by have := hk.1; omega), h.geg⟩
/-- The document's pool is another one. -/
theorem PlayAt.doc {w wx wy : World} {g gm : Nat} {most : Int} {L M M' : List Txx} {S : Nat → Prop} {A A' : Option Addr} {c c' : Nat} (h : PlayAt w g gm most L M S A c wx) (hb : Below wx.heap.size wx wy) (hr : Rd txL 7 wy A' M') (hA : ∀ ad, A' = some ad → A = some ad ∨ (wx.heap.size ≤ ad.block ∧ ad.block < wy.heap.size)) :
    PlayAt w g gm most L M' S A' c' (wy.setRow gm (plC most A' M'.length c')) := by
  have h1 := h.below hb
  have ht := turn_row wy gm (plC most A' M'.length c')
  have hgl := h.mb.lt
  have hof : ∀ ad, A' = some ad → ¬ S ad.block ∧ ad.block < wy.heap.size ∧ ad.block ≠ gm := fun ad e => by
    rcases hA ad e with e | ⟨e1, e2⟩
    · exact h1.off ad e
    · exact ⟨fun hk => by have := h.inn _ hk; omega, e2, by omega⟩
  exact ⟨h1.pl.kept ht (fun k hk e => h.ngm (e ▸ hk)), h1.inn.le ht.size, h.frm, below_setRow h1.bw h.geg, blk_setRow h1.mb, hr.kept ht (fun ad e => (hof ad e).2.2), fun ad e => ⟨(hof ad e).1, Nat.lt_of_lt_of_le (hof ad e).2.1 ht.size, (hof ad e).2.2⟩, h.ngm, h.geg⟩
/-- Another block of the round's own turns. -/
theorem PlayAt.row {w wx : World} {g gm q : Nat} {most : Int} {L M : List Txx} {S : Nat → Prop} {A : Option Addr} {c : Nat} (h : PlayAt w g gm most L M S A c wx) (hq : ¬ S q) (hg : q ≠ gm) (hw : w.heap.size ≤ q) (hA : ∀ ad, A = some ad → ad.block ≠ q) (cs : Array Value) : PlayAt w g gm most L M S A c (wx.setRow q cs) := by
  have ht := turn_row wx q cs
  exact ⟨h.pl.kept ht (fun k hk e => hq (e ▸ hk)), h.inn.le ht.size, h.frm, below_setRow h.bw hw, ht.blk h.mb (fun e => hg e.symm), h.rd.kept ht (fun ad e => hA ad e), fun ad e => ⟨(h.off ad e).1, Nat.lt_of_lt_of_le (h.off ad e).2.1 ht.size, (h.off ad e).2.2⟩, h.ngm, h.geg⟩
/-- .. and a round's own blocks: the call's, and its first transaction's. -/
structure RnAt (w : World) (g gm p q : Nat) (most : Int) (L M : List Txx) (S : Nat → Prop) (A : Option Addr) (c : Nat) (a : Pact) (x : Txx) (wx : World) : Prop where
  py : PlayAt w g gm most L M S A c wx
  act : Blk wx p 32 (pactC a)
  fst : Blk wx q 35 (txC x)
  np : ¬ S p
  nq : ¬ S q
  pg : p ≠ gm
  qg : q ≠ gm
theorem RnAt.below {w wx wy : World} {g gm p q : Nat} {most : Int} {L M : List Txx} {S : Nat → Prop} {A : Option Addr} {c : Nat} {a : Pact} {x : Txx} (h : RnAt w g gm p q most L M S A c a x wx) (hb : Below wx.heap.size wx wy) : RnAt w g gm p q most L M S A c a x wy :=
  ⟨h.py.below hb, h.act.below hb h.act.lt, h.fst.below hb h.fst.lt, h.np, h.nq, h.pg, h.qg⟩
theorem RnAt.turn {w wx wy : World} {g gm p q : Nat} {most : Int} {L L' M : List Txx} {S : Nat → Prop} {A : Option Addr} {c : Nat} {a : Pact} {x : Txx} (h : RnAt w g gm p q most L M S A c a x wx) (hp : Pl wy (moreB S wx wy) g most L') (ht : Turn S wx wy) : RnAt w g gm p q most L' M (moreB S wx wy) A c a x wy := by
  have h1 := h.act.lt
  have h2 := h.fst.lt
  exact ⟨h.py.turn hp ht, ht.blk h.act h.np, ht.blk h.fst h.nq, fun hk => hk.elim h.np (fun hk => by have := hk.1; omega), fun hk => hk.elim h.nq (fun hk => by have := hk.1; omega), h.pg, h.qg⟩
theorem RnAt.doc {w wx wy : World} {g gm p q : Nat} {most : Int} {L M M' : List Txx} {S : Nat → Prop} {A A' : Option Addr} {c c' : Nat} {a : Pact} {x : Txx} (h : RnAt w g gm p q most L M S A c a x wx) (hb : Below wx.heap.size wx wy) (hr : Rd txL 7 wy A' M') (hA : ∀ ad, A' = some ad → A = some ad ∨ (wx.heap.size ≤ ad.block ∧ ad.block < wy.heap.size)) :
    RnAt w g gm p q most L M' S A' c' a x (wy.setRow gm (plC most A' M'.length c')) := by
  have ht := turn_row wy gm (plC most A' M'.length c')
  exact ⟨h.py.doc hb hr hA, ht.blk (h.act.below hb h.act.lt) h.pg, ht.blk (h.fst.below hb h.fst.lt) h.qg, h.np, h.nq, h.pg, h.qg⟩
/-- What kinds of calls there are. -/
theorem kinds (k : Int) : (k == 0) = true ∨ ((k == 0) = false ∧ (k == 1) = true) ∨ ((k == 0) = false ∧ (k == 1) = false ∧ (k == 2) = true) ∨ ((k == 0) = false ∧ (k == 1) = false ∧ (k == 2) = false ∧ (k == 3) = true) ∨ ((k == 0) = false ∧ (k == 1) = false ∧ (k == 2) = false ∧ (k == 3) = false) := by
  cases (k == 0) <;> cases (k == 1) <;> cases (k == 2) <;> cases (k == 3) <;> simp
theorem actInfo : (Tryd.prog.info? 32).map (·.size) = some 3 := by kernel_rfl
theorem pactC_ones (a : Pact) : (pactC a).all (·.oneCell') = true := by kernel_rfl
theorem build_pl1 (most : Int) (w : World) : (Instr.build 30 #[(0, .int .i64 most)]).run Tryd.prog w = .ok (.agg (plC most none 0 0)) w := run_build w _ _ _ (by kernel_rfl)
end Go.Proofs.YtohkjleppohinaaDoor
