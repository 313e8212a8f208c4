/-
  The program's table and the document's, side by side, through a round of calls.
-/
import Derived.Test.YtglnocclhhdbbaaAlive
import Derived.Test.YtglnocclhhdbbaaRfGot
import Derived.Test.YtglnocclhhdbbaaRfWant
import Derived.Test.YtglnocclhhdbbaaRfTick
import Derived.Test.YtglnocclhhdbbaaActs
import Derived.Laws.StructEq
set_option linter.unusedSimpArgs false
set_option linter.unusedVariables false
set_option maxRecDepth 10000
namespace Go.Proofs.Ytglnocclhhdbbaa
open Go.RowKit Go.Lib
open L3 (Blk Reads block_of_add add_of_add)
open L6 (Turn moreB fresh From In)

/-- Where one of the document's lists lies: aside of the program's table. -/
def OffL (S : Nat → Prop) (gm : Nat) (wx : World) (A : Option Addr) : Prop := ∀ ad, A = some ad → ¬ S ad.block ∧ ad.block < wx.heap.size ∧ ad.block ≠ gm
/-- The program's table (s) and the document's (M). -/
structure PlAt (w : World) (g gm : Nat) (s M : FS) (S : Nat → Prop) (A : Option Addr) (c : Nat) (B : Option Addr) (d : Nat) (wx : World) : Prop where
  ft : Ft wx S g s
  inn : In wx S
  frm : From w.heap.size S
  bw : Below w.heap.size w wx
  mb : Blk wx gm 30 (rfV M (.slice A M.L.length c) (.slice B M.L.length d))
  ra : RdI wx A (numsOf M.L)
  rb : RdI wx B (timsOf M.L)
  oa : OffL S gm wx A
  ob : OffL S gm wx B
  ngm : ¬ S gm
  geg : w.heap.size ≤ gm
section
variable {w wx wy : World} {g gm : Nat} {s s' M M' : FS} {S : Nat → Prop} {A A' B B' : Option Addr} {c c' d d' : Nat}
theorem OffL.le (h : OffL S gm wx A) (hs : wx.heap.size ≤ wy.heap.size) : OffL S gm wy A := fun ad e => ⟨(h ad e).1, Nat.lt_of_lt_of_le (h ad e).2.1 hs, (h ad e).2.2⟩
theorem OffL.more (h : OffL S gm wx A) (hs : wx.heap.size ≤ wy.heap.size) : OffL (moreB S wx wy) gm wy A := fun ad e =>
  ⟨fun hk => hk.elim (h ad e).1 (fun hk => by have := hk.1; have := (h ad e).2.1; omega), Nat.lt_of_lt_of_le (h ad e).2.1 hs, (h ad e).2.2⟩
theorem OffL.new (hA : ∀ ad, A' = some ad → A = some ad ∨ (wx.heap.size ≤ ad.block ∧ ad.block < wy.heap.size)) (h : OffL S gm wx A) (hs : wx.heap.size ≤ wy.heap.size) (hi : In wx S) (hg : gm < wx.heap.size) : OffL S gm wy A' := fun ad e => by
  rcases hA ad e with e | ⟨e1, e2⟩
  · exact h.le hs ad e
  · exact ⟨fun hk => by have := hi _ hk; omega, e2, by omega⟩
theorem PlAt.below (h : PlAt w g gm s M S A c B d wx) (hb : Below wx.heap.size wx wy) : PlAt w g gm s M S A c B d wy :=
  ⟨h.ft.below hb, h.inn.le hb.size, h.frm, nxt h.bw hb, h.mb.below hb h.mb.lt, h.ra.below hb, h.rb.below hb, h.oa.le hb.size, h.ob.le hb.size, h.ngm, h.geg⟩
/-- The program's table has turned, and has new blocks. -/
theorem PlAt.turn (h : PlAt w g gm s M S A c B d wx) (hp : Ft wy (moreB S wx wy) g s') (ht : Turn S wx wy) : PlAt w g gm s' M (moreB S wx wy) A c B d wy := by
  have hs := ht.size
  have hgl := h.mb.lt
  exact ⟨hp, h.inn.more hs, h.frm.more h.bw.size, L6.nxtT h.bw ht h.frm, ht.blk h.mb h.ngm, h.ra.kept ht (fun ad e => (h.oa ad e).1), h.rb.kept ht (fun ad e => (h.ob ad e).1),
    h.oa.more hs, h.ob.more hs, fun hk => hk.elim h.ngm (fun hk => by have := hk.1; omega), h.geg⟩
/-- The document's table is another one. -/
theorem PlAt.doc (h : PlAt w g gm s M S A c B d wx) (hb : Below wx.heap.size wx wy) (hr : RdI wy A' (numsOf M'.L)) (hq : RdI wy B' (timsOf M'.L))
    (hA : ∀ ad, A' = some ad → A = some ad ∨ (wx.heap.size ≤ ad.block ∧ ad.block < wy.heap.size)) (hB : ∀ ad, B' = some ad → B = some ad ∨ (wx.heap.size ≤ ad.block ∧ ad.block < wy.heap.size)) :
    PlAt w g gm s M' S A' c' B' d' (wy.setRow gm (rfV M' (.slice A' M'.L.length c') (.slice B' M'.L.length d'))) := by
  have h1 := h.below hb
  have ht := turn_row wy gm (rfV M' (.slice A' M'.L.length c') (.slice B' M'.L.length d'))
  have oa := OffL.new hA h.oa hb.size h.inn h.mb.lt
  have ob := OffL.new hB h.ob hb.size h.inn h.mb.lt
  exact ⟨h1.ft.kept ht (fun k hk e => h.ngm (e ▸ hk)), h1.inn.le ht.size, h.frm, below_setRow h1.bw h.geg, blk_setRow h1.mb, hr.kept ht (fun ad e => (oa ad e).2.2), hq.kept ht (fun ad e => (ob ad e).2.2),
    oa.le ht.size, ob.le ht.size, h.ngm, h.geg⟩
/-- The document's table is emptied. -/
theorem PlAt.none_ (h : PlAt w g gm s M S A c B d wx) : PlAt w g gm s { M with L := [] } S none 0 none 0 ((wx.setCell ⟨gm, 4, none⟩ (.slice none 0 0)).setCell ⟨gm, 5, none⟩ (.slice none 0 0)) := by
  have ht : Turn (fun k => k = gm) wx ((wx.setCell ⟨gm, 4, none⟩ (.slice none 0 0)).setCell ⟨gm, 5, none⟩ (.slice none 0 0)) := ((L6.Turn.refl (fun k => k = gm) wx).setCell (p := ⟨gm, 4, none⟩) (.inl rfl) _).setCell (p := ⟨gm, 5, none⟩) (.inl rfl) _
  have hm := (h.mb.set_ 4 (.slice none 0 0)).set_ 5 (.slice none 0 0)
  exact ⟨h.ft.kept ht (fun k hk e => h.ngm (e ▸ hk)), h.inn.le ht.size, h.frm, h.bw.trans (ht.below (fun k e => by rw [e]; exact h.geg) h.bw.size), hm, Rd.nil, Rd.nil, fun ad e => (nomatch e), fun ad e => (nomatch e), h.ngm, h.geg⟩
end
/-- The acts' cells, as the walk asks them. -/
theorem Acts.cells {w : World} {A : Option Addr} {n : Nat} {D : Nat → Actx} (h : Acts w A n D) {k : Nat} (hk : k < n) : ∃ ad, A = some ad ∧ ad.block < w.heap.size ∧ w.cell? (ad.add (k * 2)) = some (.int .i64 (D k).kind) ∧ w.cell? ⟨(ad.add (k * 2)).block, (ad.add (k * 2)).off + 1, none⟩ = some (.int .i64 (D k).n) ∧ (D k).fit := by
  obtain ⟨ad, hA, hl, h0, h1, hf⟩ := h k hk
  refine ⟨ad, hA, hl, h0, ?_, hf⟩
  rw [← add_of_add] at h1
  have e : ∀ a : Addr, a.add 1 = ⟨a.block, a.off + 1, none⟩ := fun a => by unfold Addr.add; rfl
  rwa [e] at h1
/-- What a drawn call of the document's reads: an act's number. -/
structure RdE (ad : Addr) (n : Int) (W : World) : Prop where
  e : W.cell? ad = some (.int .i64 n)
theorem RdE.below {ad : Addr} {n : Int} {W W' : World} (h : RdE ad n W) (hb : Below W.heap.size W W') : RdE ad n W' := ⟨(hb.cell (World.block_lt_of_cell? _ _ h.e)).trans h.e⟩
theorem RdE.row {ad : Addr} {n : Int} {W : World} {g : Nat} (h : RdE ad n W) (hne : ad.block ≠ g) (cs : Array Value) : RdE ad n (W.setRow g cs) := ⟨(turn_row W g cs).cell h.e hne⟩
theorem akInfo1 : (Try.prog.info? 44).map (·.size) = some 3 := by kernel_rfl
theorem rakInfo1 : (Try.prog.info? 43).map (·.size) = some 3 := by kernel_rfl
/-- An ask isn't unlike itself. -/
theorem neqK (x : Askx) (w : World) : (binOp .neq 43 (.agg (akC x)) (.agg (akC x))).run Try.prog w = .ok (.bool false) w := by
  have h := run_equalIn_agg (P := Try.prog) w 9999 43 (akC x) (akC x) (by kernel_rfl) (by kernel_rfl)
  rw [run_neq_struct, show (10000 : Nat) = 9999 + 1 from rfl, h]
  have e := fun (d : Nat) (a : Int) W => run_equalIn_int (P := Try.prog) W d 3 .i64 .i64 a a Try.underlying3
  simp [Program.fieldsOf, Try.underlying43, Op.eqFields, part, akC, Try.isAgg3, e]
end Go.Proofs.Ytglnocclhhdbbaa
