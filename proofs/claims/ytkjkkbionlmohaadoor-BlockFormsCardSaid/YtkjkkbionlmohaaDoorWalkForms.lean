/-
  BlockForms, walked: which blocks may be, what is signed for them, and their bytes, by the code and by the document.
-/
import Derived.Test.YtkjkkbionlmohaaDoorAlive
import Derived.Test.YtkjkkbionlmohaaDoorGreatB
import Derived.Test.YtkjkkbionlmohaaDoorPropB
import Derived.Test.YtkjkkbionlmohaaDoorRefChkA
import Derived.Test.YtkjkkbionlmohaaDoorRefBytB
import Derived.Test.YtkjkkbionlmohaaDoorBytB
set_option linter.unusedSimpArgs false
set_option linter.unusedVariables false
set_option maxRecDepth 10000
namespace Go.Proofs.YtkjkkbionlmohaaDoor
open Go.RowKit Go.Maps Go.Lib
open L3 (Blk Reads)
open L11 (Crt zeroC Stm stmC stmC_ones stmInfo wpQuiet_fn)

theorem conv_any {w : World} {G c n : Nat} {A : Option Addr} {l : List UInt8} (h : Reads w G 1 A n (Lib.byteCells l)) (hn : n = l.length) : (convert 33 9 (.slice A n c)).run Tryd.prog w = .ok (.string (str l)) w := by
  subst hn
  have := L3.conv_reads (c := c) h (Nat.le_refl _)
  rw [List.take_length] at this
  exact this
theorem wpQuiet_conv {P : Program} {ops : Array Oper} {S : World → Prop} {o : Oper} {rest : List Oper} {a : Act} {Qa : Act → Prop} (hg : Region.wanted o (yielded ops a.tmps) = true) (t u : TypeId) (x : Operand) (ho : o.op = .convert t u x) (v v' : Value)
    (hx : a.eval x = v) (hc : ∀ z : WorldIn S, (convert t u v).run P z.w = .ok v' z.w)
    (h : wpQuiet P ops (fun w' => ∃ x : WorldIn S, w' = x.w) Qa rest (a.put o.dst v')) : wpQuiet P ops (fun w' => ∃ x : WorldIn S, w' = x.w) Qa (o :: rest) a := by
  refine wpQuiet_value hg (fun z => ?_) h
  simp only [execOp, ho, hx, Sem.run_bind, hc z, Result.andThen_ok, Sem.run_pure]
/-- The block's box and the bytes that were made of it. -/
structure FoAt (w : World) (b : Blo) (A : Option Addr) (c : Nat) (B : Option Addr) (d : Nat) (G : Nat) (A3 : Option Addr) (y : List UInt8) (W : World) : Prop where
  box : BoxB w w.heap.size b A c B d W
  rd : Reads W G 1 A3 y.length (Lib.byteCells y)
  le : G ≤ W.heap.size
section
variable {w W W' : World} {b : Blo} {A : Option Addr} {c : Nat} {B : Option Addr} {d : Nat} {G : Nat} {A3 : Option Addr} {y : List UInt8}
theorem FoAt.below (h : FoAt w b A c B d G A3 y W) (hb : Below W.heap.size W W') : FoAt w b A c B d G A3 y W' := ⟨h.box.below hb, h.rd.below (hb.mono h.le), Nat.le_trans h.le hb.size⟩
theorem FoAt.drew (h : FoAt w b A c B d G A3 y W) : FoAt w b A c B d G A3 y W.drew := h.below (Below.refl _ W).drew
end
set_option maxHeartbeats 4000000 in
set_option maxRecDepth 100000 in
theorem forms_walk (b : Blo) (A : Option Addr) (c : Nat) (B : Option Addr) (d : Nat) (n : Int) (w : World) (hraw : b.raw) (hp : Rd tmL 10 w A b.proof) (ht : Rd txL 7 w B b.txs) (hn : -9223372036854775808 ≤ n ∧ n ≤ 9223372036854775807) (hT : Tabs w) :
    Calls Tryd.prog 3 #[.agg (bloC b (.slice A b.proof.length c) (.slice B b.txs.length d)), .int .i64 n] w (gives (.bool true) w) := by
  have F0 := Lib.hid (boxB_mk (c := c) (d := d) hp ht)
  have HT := Lib.hid (fun w' (hb : Below w.heap.size w w') => hT.kept hb)
  have HG := Lib.hid (fun W (h : BoxB w w.heap.size b A c B d W) => greatK_any b A c B d W hraw h.rp h.rt)
  have HSM := Lib.hid (fun hg => great_small hraw hg)
  have HI := Lib.hid hn
  clear hp ht hT hraw hn
  go_enter Tryd.func3, Tryd.ntmps3
  go_upto_region 1 with fail
  refine name_world (fun w0 hw0 => ?_)
  have hA0 : BoxB w w.heap.size b A c B d w0 := by rw [hw0]; exact F0.out
  clear hw0 F0
  have hal := alive_any w0 (HT.out _ hA0.bw)
  go_upto_region 3 with (first
    | (go_at_call 7; refine hal.mono ?_; unfold gives; rintro e w1 ⟨rfl, hb1⟩))
  have hA1 := hA0.below hb1
  clear hA0 hb1 hal
  have hgr := HG.out w1 hA1
  rcases Bool.eq_false_or_eq_true (greatK b) with hg | hg
  · rw [hg] at hgr
    clear hg HSM HG
    go_wp2_with (first
      | (refine wpList_row_at rfl _ _ rfl w.heap.size rfl _ _ _ _ hA1.bb Tryd.underlying28 rfl bloInfo ?_)
      | (go_at_call 8; refine hgr.mono ?_; unfold gives; rintro e w2 ⟨rfl, hb2⟩))
    go_ret
    exact ⟨rfl, nxt hA1.bw hb2⟩
  obtain ⟨hwf, hnp, hnt, _⟩ := HSM.out hg
  rw [hg] at hgr
  have HWF := Lib.hid hwf
  have HNE := Lib.hid (fun W => L11.neqM (stmP_wf hwf HI.out) (stmP_wf hwf HI.out) W)
  have HCK := Lib.hid (fun W (h : BoxB w w.heap.size b A c B d W) => And.intro (checkB_any b _ _ W hwf ⟨A, c, B, d, rfl, rfl, h.rp, h.rt⟩ (HT.out _ h.bw)) (refchk_any b A c B d W hwf h.rp h.rt))
  clear hg HSM HG hwf hnp hnt
  go_upto_region 5 with (first
    | (refine wpList_row_at rfl _ _ rfl w.heap.size rfl _ _ _ _ hA1.bb Tryd.underlying28 rfl bloInfo ?_)
    | (go_at_call 8; refine hgr.mono ?_; unfold gives; rintro e w2 ⟨rfl, hb2⟩))
  have hA2 := hA1.below hb2
  clear hA1 hb2 hgr
  have hck := (HCK.out _ hA2).1
  by_cases h0 : checkV b = 0
  case neg =>
    have hno := fun W (h : BoxB w w.heap.size b A c B d W) => bytesB_no b _ _ W HWF.out ⟨A, c, B, d, rfl, rfl, h.rp, h.rt⟩ (HT.out _ h.bw) h0
    have hrc := fun W h => (HCK.out W h).2
    obtain ⟨r, hr⟩ : ∃ r, r = checkV b := ⟨_, rfl⟩
    rw [← hr] at hno h0 hck
    simp only [← hr] at hrc
    have q1 : (r == 0) = false := by simpa using h0
    have q2 : (r != 0) = true := by simpa using h0
    have HNO := Lib.hid (And.intro hno hrc)
    clear hr h0 hno hrc HCK
    go_upto_region 8 with (first
      | (refine wpList_row_at rfl _ _ rfl w.heap.size rfl _ _ _ _ hA2.bb Tryd.underlying28 rfl bloInfo ?_)
      | (go_at_call 9; refine hck.mono ?_; unfold gives; rintro e w3 ⟨rfl, hb3⟩; have hA3 := hA2.below hb3)
      | (refine wpList_row_at rfl _ _ rfl w.heap.size rfl _ _ _ _ hA3.bb Tryd.underlying28 rfl bloInfo ?_)
      | (go_at_call 10; refine (HNO.out.1 _ hA3).mono ?_; unfold gives; rintro e w4 ⟨rfl, hb4⟩; have hA4 := hA3.below hb4)
      | (refine wpList_row_at rfl _ _ rfl w.heap.size rfl _ _ _ _ hA4.bb Tryd.underlying28 rfl bloInfo ?_)
      | (go_at_call 11; refine (HNO.out.2 _ hA4).mono ?_; unfold gives; rintro e w5 ⟨rfl, hb5⟩))
    have hA5 := (hA4.below hb5).drew
    clear hA2 hA3 hA4 hb3 hb4 hb5 hck HNO
    have ne : Nonempty (WorldIn (BoxB w w.heap.size b A c B d)) := ⟨⟨_, hA5⟩⟩
    have d0 : ∀ z : WorldIn (BoxB w w.heap.size b A c B d), z.w.cell? ⟨w.heap.size, 0, none⟩ = some (.int .i64 b.view) := fun z => z.h.bb.cell 0
    have d1 : ∀ z : WorldIn (BoxB w w.heap.size b A c B d), z.w.cell? ⟨w.heap.size, 1, none⟩ = some (.int .i64 b.round) := fun z => z.h.bb.cell 1
    have d2 : ∀ z : WorldIn (BoxB w w.heap.size b A c B d), z.w.cell? ⟨w.heap.size, 2, none⟩ = some (.int .i64 b.height) := fun z => z.h.bb.cell 2
    have d3 : ∀ z : WorldIn (BoxB w w.heap.size b A c B d), z.w.cell? ⟨w.heap.size, 3, none⟩ = some (.int .i64 b.author) := fun z => z.h.bb.cell 3
    refine wp_region_S (BoxB w w.heap.size b A c B d) (by kernel_rfl) (by kernel_rfl) hA5 ?_
    repeat (first
      | (refine wpQuiet_row rfl _ _ rfl w.heap.size rfl _ _ _ _ (fun y => y.h.bb) Tryd.underlying28 rfl bloInfo ?_
         conv => arg 6; simp only [Act.put, List.setIfInBounds_toArray, List.set_cons_zero, List.set_cons_succ])
      | (refine wpQuiet_fn rfl 12 _ _ rfl Tryd.call12 [.int .i64 n, .agg (bloC b (.slice A b.proof.length c) (.slice B b.txs.length d))] rfl (v := .agg (stmC (stmP n b))) (fun x => (proposal_any n b _ _ _ _ _ _ x.w).mono fun e w' ⟨he, hb⟩ => ⟨he, x.h.below hb⟩) ?_
         conv => arg 6; simp only [Act.put, List.setIfInBounds_toArray, List.set_cons_zero, List.set_cons_succ])
      | (refine wpQuiet_build rfl _ _ rfl #[(0, .int .i64 1), (1, .int .i64 n), (2, .int .i64 b.view), (3, .int .i64 b.round), (4, .int .i64 b.height), (5, .int .i64 b.author)] rfl (v := .agg (stmC (stmP n b))) (fun W => build_pr _ _ _ _ _ W) ?_
         conv => arg 6; simp only [Act.put, List.setIfInBounds_toArray, List.set_cons_zero, List.set_cons_succ])
      | (refine wpQuiet_binop rfl _ _ _ _ _ rfl (stmC (stmP n b)) (stmC (stmP n b)) rfl rfl (by kernel_rfl) (v := .bool false) (fun W => by rw [HNE.out W]; simp) ?_
         conv => arg 6; simp only [Act.put, List.setIfInBounds_toArray, List.set_cons_zero, List.set_cons_succ])
      | go_big_quiet_step (fail))
    refine wpQuiet_nil ?_
    intro x
    obtain ⟨w7, hA7⟩ := x
    dsimp only
    clear ne d0 d1 d2 d3
    go_wp2
    go_ret
    exact ⟨rfl, hA7.bw⟩
  have hby := fun W (h : BoxB w w.heap.size b A c B d W) => bytesB_ok b _ _ W HWF.out ⟨A, c, B, d, rfl, rfl, h.rp, h.rt⟩ (HT.out _ h.bw) h0
  have hrc := fun W h => (HCK.out W h).2
  have hrb := fun W (h : BoxB w w.heap.size b A c B d W) => refbytB_any b A c B d W HWF.out h.rp h.rt h0
  simp only [h0] at hrc
  rw [h0] at hck
  obtain ⟨y, hy⟩ : ∃ y, y = bytesB b := ⟨_, rfl⟩
  simp only [← hy] at hby hrb
  have HBY := Lib.hid (And.intro hby (And.intro hrc hrb))
  clear hy h0 hby hrc hrb HCK
  go_upto_region 8 with (first
    | (refine wpList_row_at rfl _ _ rfl w.heap.size rfl _ _ _ _ hA2.bb Tryd.underlying28 rfl bloInfo ?_)
    | (go_at_call 9; refine hck.mono ?_; unfold gives; rintro e w3 ⟨rfl, hb3⟩; have hA3 := hA2.below hb3)
    | (refine wpList_row_at rfl _ _ rfl w.heap.size rfl _ _ _ _ hA3.bb Tryd.underlying28 rfl bloInfo ?_)
    | (go_at_call 10; refine (HBY.out.1 _ hA3).mono ?_; unfold made; rintro e w4 ⟨A3, c3, rfl, r3, q3, hb4⟩; have hA4 : FoAt w b A c B d w4.heap.size A3 y w4 := ⟨hA3.below hb4, r3, Nat.le_refl _⟩)
    | (refine wpList_row_at rfl _ _ rfl w.heap.size rfl _ _ _ _ hA4.box.bb Tryd.underlying28 rfl bloInfo ?_)
    | (go_at_call 11; refine (HBY.out.2.1 _ hA4.box).mono ?_; unfold gives; rintro e w5 ⟨rfl, hb5⟩))
  obtain ⟨G, hG⟩ : ∃ G, G = w4.heap.size := ⟨_, rfl⟩
  have hA5 := (hA4.below hb5).drew
  rw [← hG] at hA5
  clear hA2 hA3 hA4 hb3 hb4 hb5 hck r3 q3 hG
  have ne : Nonempty (WorldIn (FoAt w b A c B d G A3 y)) := ⟨⟨_, hA5⟩⟩
  have d0 : ∀ z : WorldIn (FoAt w b A c B d G A3 y), z.w.cell? ⟨w.heap.size, 0, none⟩ = some (.int .i64 b.view) := fun z => z.h.box.bb.cell 0
  have d1 : ∀ z : WorldIn (FoAt w b A c B d G A3 y), z.w.cell? ⟨w.heap.size, 1, none⟩ = some (.int .i64 b.round) := fun z => z.h.box.bb.cell 1
  have d2 : ∀ z : WorldIn (FoAt w b A c B d G A3 y), z.w.cell? ⟨w.heap.size, 2, none⟩ = some (.int .i64 b.height) := fun z => z.h.box.bb.cell 2
  have d3 : ∀ z : WorldIn (FoAt w b A c B d G A3 y), z.w.cell? ⟨w.heap.size, 3, none⟩ = some (.int .i64 b.author) := fun z => z.h.box.bb.cell 3
  refine wp_region_S (FoAt w b A c B d G A3 y) (by kernel_rfl) (by kernel_rfl) hA5 ?_
  repeat (first
    | (refine wpQuiet_row rfl _ _ rfl w.heap.size rfl _ _ _ _ (fun y => y.h.box.bb) Tryd.underlying28 rfl bloInfo ?_
       conv => arg 6; simp only [Act.put, List.setIfInBounds_toArray, List.set_cons_zero, List.set_cons_succ])
    | (refine wpQuiet_fn rfl 12 _ _ rfl Tryd.call12 [.int .i64 n, .agg (bloC b (.slice A b.proof.length c) (.slice B b.txs.length d))] rfl (v := .agg (stmC (stmP n b))) (fun x => (proposal_any n b _ _ _ _ _ _ x.w).mono fun e w' ⟨he, hb⟩ => ⟨he, x.h.below hb⟩) ?_
       conv => arg 6; simp only [Act.put, List.setIfInBounds_toArray, List.set_cons_zero, List.set_cons_succ])
    | (refine wpQuiet_build rfl _ _ rfl #[(0, .int .i64 1), (1, .int .i64 n), (2, .int .i64 b.view), (3, .int .i64 b.round), (4, .int .i64 b.height), (5, .int .i64 b.author)] rfl (v := .agg (stmC (stmP n b))) (fun W => build_pr _ _ _ _ _ W) ?_
       conv => arg 6; simp only [Act.put, List.setIfInBounds_toArray, List.set_cons_zero, List.set_cons_succ])
    | (refine wpQuiet_binop rfl _ _ _ _ _ rfl (stmC (stmP n b)) (stmC (stmP n b)) rfl rfl (by kernel_rfl) (v := .bool false) (fun W => by rw [HNE.out W]; simp) ?_
       conv => arg 6; simp only [Act.put, List.setIfInBounds_toArray, List.set_cons_zero, List.set_cons_succ])
    | go_big_quiet_step (fail))
  refine wpQuiet_nil ?_
  intro x
  obtain ⟨w7, hA7⟩ := x
  dsimp only
  clear d0 d1 d2 d3 hA5
  go_upto_region 12 with fail
  have hcv : Hid (∀ z : WorldIn (FoAt w b A c B d G A3 y), (convert 33 9 (.slice A3 y.length c3)).run Tryd.prog z.w = .ok (.string (str y)) z.w) := Lib.hid (fun z => conv_any z.h.rd rfl)
  have hsl : ((str y).toList == (str y).toList) = true := by simp
  refine wp_region_S (FoAt w b A c B d G A3 y) (by kernel_rfl) (by kernel_rfl) hA7.drew ?_
  repeat (first
    | (refine wpQuiet_row rfl _ _ rfl w.heap.size rfl _ _ _ _ (fun y => y.h.box.bb) Tryd.underlying28 rfl bloInfo ?_
       conv => arg 6; simp only [Act.put, List.setIfInBounds_toArray, List.set_cons_zero, List.set_cons_succ])
    | (refine wpQuiet_fn rfl 13 _ _ rfl Tryd.call13 [.agg (bloC b (.slice A b.proof.length c) (.slice B b.txs.length d))] rfl (v := .string (str y)) (fun x => (HBY.out.2.2 x.w x.h.box).mono fun e w' ⟨he, hb⟩ => ⟨he, x.h.below hb⟩) ?_
       conv => arg 6; simp only [Act.put, List.setIfInBounds_toArray, List.set_cons_zero, List.set_cons_succ])
    | (refine wpQuiet_conv rfl _ _ _ rfl (.slice A3 y.length c3) (.string (str y)) rfl hcv.out ?_
       conv => arg 6; simp only [Act.put, List.setIfInBounds_toArray, List.set_cons_zero, List.set_cons_succ])
    | go_big_quiet_step (fail))
  refine wpQuiet_nil ?_
  intro x
  obtain ⟨w8, hA8⟩ := x
  dsimp only
  go_wp2
  go_ret
  exact ⟨rfl, hA8.box.bw⟩
end Go.Proofs.YtkjkkbionlmohaaDoor
