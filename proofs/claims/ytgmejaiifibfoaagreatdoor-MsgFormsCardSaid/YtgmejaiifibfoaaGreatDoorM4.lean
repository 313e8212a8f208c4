/-
  Texts of one layer in one: Made, MadeA.
-/
import Derived.Test.YtgmejaiifibfoaaGreatDoorM2
import Derived.Test.YtgmejaiifibfoaaGreatDoorB4
import Derived.Deep.MidRow
import Derived.Deep.RegionHeld3

/-
  The message that is made of what it has, by the code.
-/
set_option linter.unusedSimpArgs false
set_option linter.unusedVariables false
set_option maxRecDepth 10000
namespace Go.Proofs.YtgmejaiifibfoaaGreatDoor
open Go.RowKit Go.Maps Go.Lib
open L3 (Blk Reads)
open L6 (Turn)
open L11 (Crt zeroC crtL crtC mayV okW crtInfo crtC_ones)

def nS0 : Value := .slice none 0 0
/-- Cells laid over others, from place o on. -/
def overC (cs : Array Value) : Nat → List Value → Array Value
  | _, [] => cs
  | o, v :: r => overC (cs.setIfInBounds o v) (o + 1) r
theorem blk_over {t : TypeId} {g : Nat} : ∀ (vs : List Value) (o : Nat) {w : World} {cs : Array Value}, Blk w g t cs → Blk (w.setCells g o vs) g t (overC cs o vs)
  | [], _, _, _, h => h
  | v :: r, o, w, cs, h => blk_over r (o + 1) (h.set_ o v)
theorem turn_cellsC (g : Nat) : ∀ (vs : List Value) (o : Nat) (w : World), Turn (fun k => k = g) w (w.setCells g o vs)
  | [], _, w => L6.Turn.refl _ _
  | v :: r, o, w => (turn_cell w g o v).trans (turn_cellsC g r (o + 1) _) (fun i hi => .inl hi)
theorem blk_there {w : World} {g : Nat} {t : TypeId} {cs : Array Value} (h : Blk w g t cs) {o n : Nat} (hn : o + n ≤ cs.size) : w.there g o n := by
  refine fun j hj => ⟨?_, h.frozen _⟩
  rw [h.cell, Array.getElem?_eq_getElem (by omega)]
  rfl
/-- A struct is stored into a block's middle, and the world gets a name. -/
theorem wpList_store_midN {P : Program} {ops : Array Oper} {rest : List Oper} {op : Oper} {a : Act} {w : World} {Q : Exit → Act → World → Prop} (hgd : op.guard = none) (ty : TypeId) (x y : Operand) (ho : op.op = .store ty x y)
    (b o : Nat) (cells : Array Value) (hx : a.eval x = .pointer (some ⟨b, o, none⟩)) (hy : a.eval y = .agg cells)
    (ht : w.there b o cells.size) (hi : (P.info? ty).map (·.size) = some cells.size) (h1 : cells.all (·.oneCell') = true)
    (h : ∀ w', w' = w.setCells b o cells.toList → wpList P ops Q rest (a.put op.dst undef) w') : wpList P ops Q (op :: rest) a w :=
  wpList_store_mid hgd ty x y ho b o cells hx hy ht hi h1 (h _ rfl)
theorem build_mk (k : Int) (w : World) : (Instr.build 39 #[(0, .int .i64 k)]).run Tryz.prog w = .ok (.agg (mesC { zeroM with kind := k } nS0 nS0 nS0)) w := run_build w _ _ _ (by kernel_rfl)
theorem build_m0 (w : World) : (Instr.build 39 #[]).run Tryz.prog w = .ok (.agg (mesC zeroM nS0 nS0 nS0)) w := run_build w _ _ _ (by kernel_rfl)
theorem mesC_onesZ (m : Mes) : (mesC m nS0 nS0 nS0).all (·.oneCell') = true := by kernel_rfl
theorem over_blo (m : Mes) (P Q T : Value) (b : Blo) (Q' T' : Value) : overC (mesC m P Q T) 24 (bloC b Q' T').toList = mesC { m with block := b } P Q' T' := by kernel_rfl
theorem over_crt (m : Mes) (P Q T : Value) (c : Crt) : overC (mesC m P Q T) 5 (crtC c).toList = mesC { m with cert := c } P Q T := by kernel_rfl
theorem over_tmo (m : Mes) (P Q T : Value) (t : Tmo) : overC (mesC m P Q T) 13 (tmC t).toList = mesC { m with tm := t } P Q T := by kernel_rfl
theorem over_tx (m : Mes) (P Q T : Value) (t : Txx) : overC (mesC m P Q T) 38 (txC t).toList = mesC { m with tx := t } P Q T := by kernel_rfl
theorem invInfo (a b : Value) : (Tryz.prog.info? 75).map (·.size) = some (#[a, b] : Array Value).size := by kernel_rfl
theorem eleInfo (a b : Value) : (Tryz.prog.info? 77).map (·.size) = some (#[a, b] : Array Value).size := by kernel_rfl
theorem wanInfo (a b : Value) : (Tryz.prog.info? 79).map (·.size) = some (#[a, b] : Array Value).size := by kernel_rfl
theorem keep2_set {W : World} {g b i : Nat} {v x y : Value} (hne : g ≠ b) (h : W.cell? ⟨g, 0, none⟩ = some x ∧ W.cell? ⟨g, 1, none⟩ = some y) : (W.setCell ⟨b, i, none⟩ v).cell? ⟨g, 0, none⟩ = some x ∧ (W.setCell ⟨b, i, none⟩ v).cell? ⟨g, 1, none⟩ = some y := by
  have k : ∀ j, (W.setCell ⟨b, i, none⟩ v).cell? ⟨g, j, none⟩ = W.cell? ⟨g, j, none⟩ := fun j => World.cell?_of_block (a := ⟨g, j, none⟩) (Below.heap_setCell W ⟨b, i, none⟩ v g hne)
  rw [k, k]
  exact h
/-- While a message is made: the result's box (zero), the message's. -/
structure MdAt (w : World) (M : Nat) (m : Mes) (P Q T : Value) (W : World) : Prop where
  r0 : Blk W w.heap.size 39 (mesC zeroM nS0 nS0 nS0)
  r1 : Blk W M 39 (mesC m P Q T)
  bw : Below w.heap.size w W
  hM : w.heap.size < M
section
variable {w W W' : World} {M : Nat} {m : Mes} {P Q T : Value}
theorem MdAt.below (h : MdAt w M m P Q T W) (hb : Below W.heap.size W W') : MdAt w M m P Q T W' := ⟨h.r0.below hb h.r0.lt, h.r1.below hb h.r1.lt, nxt h.bw hb, h.hM⟩
theorem MdAt.alloc (h : MdAt w M m P Q T W) (o : Obj) : MdAt w M m P Q T (W.alloc o) := h.below (below_new _ _)
theorem MdAt.turn (h : MdAt w M m P Q T W) (ht : Turn (fun k => k = M) W W') {m' : Mes} {P' Q' T' : Value} (hr : Blk W' M 39 (mesC m' P' Q' T')) : MdAt w M m' P' Q' T' W' :=
  ⟨ht.blk h.r0 (by have := h.hM; omega), hr, h.bw.trans (ht.below (fun i e => by have := h.hM; omega) h.bw.size), h.hM⟩
theorem MdAt.blk (h : MdAt w M m P Q T W) (b : Blo) (Q' T' : Value) : MdAt w M { m with block := b } P Q' T' (W.setCells M 24 (bloC b Q' T').toList) :=
  h.turn (turn_cellsC _ _ _ _) (by have := blk_over (bloC b Q' T').toList 24 h.r1; rw [over_blo] at this; exact this)
theorem MdAt.crt (h : MdAt w M m P Q T W) (c : Crt) : MdAt w M { m with cert := c } P Q T (W.setCells M 5 (crtC c).toList) :=
  h.turn (turn_cellsC _ _ _ _) (by have := blk_over (crtC c).toList 5 h.r1; rw [over_crt] at this; exact this)
theorem MdAt.tmo (h : MdAt w M m P Q T W) (t : Tmo) : MdAt w M { m with tm := t } P Q T (W.setCells M 13 (tmC t).toList) :=
  h.turn (turn_cellsC _ _ _ _) (by have := blk_over (tmC t).toList 13 h.r1; rw [over_tmo] at this; exact this)
theorem MdAt.txx (h : MdAt w M m P Q T W) (t : Txx) : MdAt w M { m with tx := t } P Q T (W.setCells M 38 (txC t).toList) :=
  h.turn (turn_cellsC _ _ _ _) (by have := blk_over (txC t).toList 38 h.r1; rw [over_tx] at this; exact this)
theorem MdAt.cell (h : MdAt w M m P Q T W) (i : Nat) (u : Value) {m' : Mes} {P' Q' T' : Value} (e : (mesC m P Q T).setIfInBounds i u = mesC m' P' Q' T') : MdAt w M m' P' Q' T' (W.setCell ⟨M, i, none⟩ u) :=
  h.turn (turn_cell _ _ _ _) (by have := h.r1.set_ i u; rw [e] at this; exact this)
end
theorem md_mk {w W : World} (k : Int) (h0 : Blk W w.heap.size 39 (mesC zeroM nS0 nS0 nS0)) (hb : Below w.heap.size w W) : MdAt w W.heap.size { zeroM with kind := k } nS0 nS0 nS0 (W.alloc (.cells (mesC { zeroM with kind := k } nS0 nS0 nS0) 39)) :=
  ⟨h0.alloc _, mes_new _ _ _ _ _ _, nxt hb (below_new _ _), h0.lt⟩
set_option maxHeartbeats 2000000 in
set_option maxRecDepth 100000 in
theorem made_B (k : Int) (b : Blo) (A : Option Addr) (n c : Nat) (D : Option Addr) (m d : Nat) (w : World) : Calls Tryz.prog 18 #[.int .i64 k, .iface 30 (.agg (bloC b (.slice A n c) (.slice D m d)))] w (gives (.agg (mesC (madeM k (.blk b)) nS0 (.slice A n c) (.slice D m d))) w) := by
  have k0 := mes_new w 39 zeroM nS0 nS0 nS0
  have hb0 := below_new w (.cells (mesC zeroM nS0 nS0 nS0) 39)
  have F0 := Lib.hid (And.intro k0 hb0)
  clear k0 hb0
  have asB := as_BB
  go_enter Tryz.func18, Tryz.ntmps18
  go_upto_region 1 with fail
  refine name_world (fun w0 hw0 => ?_)
  have hK0 : Blk w0 w.heap.size 39 (mesC zeroM nS0 nS0 nS0) := by rw [hw0]; exact F0.out.1
  have hB0 : Below w.heap.size w w0 := by rw [hw0]; exact F0.out.2
  clear hw0 F0
  go_upto_region 2 with (first
    | (refine wpList_build rfl _ _ rfl #[(0, .int .i64 k)] rfl (build_mk k _) ?_)
    | (refine wpList_store_new rfl _ _ _ rfl _ (mesC { zeroM with kind := k } nS0 nS0 nS0) rfl rfl _ _ mesInfo rfl (mesC_onesZ _) ?_))
  have hA0 := md_mk k hK0 hB0
  obtain ⟨M, hM⟩ : ∃ M, M = w0.heap.size := ⟨_, rfl⟩
  rw [← hM] at hA0
  rw [← hM]
  refine name_world (fun w1 hw1 => ?_)
  rw [← hw1] at hA0
  clear hw1 hM hK0 hB0
  go_upto_region 5 with (refine wpList_store_new rfl _ _ _ rfl _ (bloC b (.slice A n c) (.slice D m d)) rfl rfl _ _ bloInfo rfl (bloC_ones _ _ _ _ _ _ _) ?_)
  have hA1 := hA0.alloc (.cells (bloC b (.slice A n c) (.slice D m d)) 30)
  have k1 : Blk (w1.alloc (.cells (bloC b (.slice A n c) (.slice D m d)) 30)) w1.heap.size 30 (bloC b (.slice A n c) (.slice D m d)) := Blk.new _ _ _
  have hgt : M < w1.heap.size := hA0.r1.lt
  obtain ⟨G, hG⟩ : ∃ G, G = w1.heap.size := ⟨_, rfl⟩
  rw [← hG] at k1 hgt
  rw [← hG]
  refine name_world (fun w2 hw2 => ?_)
  rw [← hw2] at hA1 k1
  clear hw2 hG hA0
  have hth : w2.there M 24 ((bloC b (.slice A n c) (.slice D m d))).size := blk_there hA1.r1 (by show 24 + 14 ≤ 45; omega)
  go_upto_region 27 with (first
    | (refine wpList_row_at rfl _ _ rfl G rfl _ _ _ _ k1 Tryz.underlying30 rfl bloInfo ?_)
    | (refine wpList_store_midN rfl _ _ _ rfl M 24 (bloC b (.slice A n c) (.slice D m d)) rfl rfl hth bloInfo (bloC_ones _ _ _ _ _ _ _) ?_; rintro w3 hw3; have hA : MdAt w M (madeM k (.blk b)) nS0 (.slice A n c) (.slice D m d) w3 := (by rw [hw3]; exact hA1.blk b (.slice A n c) (.slice D m d)); clear hw3 hth hA1 k1))
  go_wp2_with (first
    | (refine wpList_row_at rfl _ _ rfl M rfl _ _ _ _ hA.r1 Tryz.underlying39 rfl mesInfo ?_)
    | (refine wpList_store_row rfl _ _ _ rfl w.heap.size (mesC (madeM k (.blk b)) nS0 (.slice A n c) (.slice D m d)) rfl rfl _ _ hA.r0 mesInfo rfl (by kernel_rfl) ?_))
  (try simp only [Exit.inBlock, Exit.then])
  refine bodyPost_ret (v := .agg (mesC (madeM k (.blk b)) nS0 (.slice A n c) (.slice D m d))) (results_row rfl _ _ w.heap.size rfl _ (mesC (madeM k (.blk b)) nS0 (.slice A n c) (.slice D m d)) _ _ (blk_setRow hA.r0) Tryz.underlying39 rfl mesInfo) rfl ?_
  exact ⟨rfl, below_setRow hA.bw (Nat.le_refl _)⟩
set_option maxHeartbeats 2000000 in
set_option maxRecDepth 100000 in
theorem made_C (k : Int) (c : Crt) (w : World) : Calls Tryz.prog 18 #[.int .i64 k, .iface 24 (.agg (crtC c))] w (gives (.agg (mesC (madeM k (.crt c)) nS0 nS0 nS0)) w) := by
  have k0 := mes_new w 39 zeroM nS0 nS0 nS0
  have hb0 := below_new w (.cells (mesC zeroM nS0 nS0 nS0) 39)
  have F0 := Lib.hid (And.intro k0 hb0)
  clear k0 hb0
  have asB := as_CB
  have asC := as_CC
  go_enter Tryz.func18, Tryz.ntmps18
  go_upto_region 1 with fail
  refine name_world (fun w0 hw0 => ?_)
  have hK0 : Blk w0 w.heap.size 39 (mesC zeroM nS0 nS0 nS0) := by rw [hw0]; exact F0.out.1
  have hB0 : Below w.heap.size w w0 := by rw [hw0]; exact F0.out.2
  clear hw0 F0
  go_upto_region 2 with (first
    | (refine wpList_build rfl _ _ rfl #[(0, .int .i64 k)] rfl (build_mk k _) ?_)
    | (refine wpList_store_new rfl _ _ _ rfl _ (mesC { zeroM with kind := k } nS0 nS0 nS0) rfl rfl _ _ mesInfo rfl (mesC_onesZ _) ?_))
  have hA0 := md_mk k hK0 hB0
  obtain ⟨M, hM⟩ : ∃ M, M = w0.heap.size := ⟨_, rfl⟩
  rw [← hM] at hA0
  rw [← hM]
  refine name_world (fun w1 hw1 => ?_)
  rw [← hw1] at hA0
  clear hw1 hM hK0 hB0
  go_upto_region 8 with (refine wpList_store_new rfl _ _ _ rfl _ (crtC c) rfl rfl _ _ crtInfo rfl (crtC_ones _) ?_)
  have hA1 := hA0.alloc (.cells (crtC c) 24)
  have k1 : Blk (w1.alloc (.cells (crtC c) 24)) w1.heap.size 24 (crtC c) := Blk.new _ _ _
  have hgt : M < w1.heap.size := hA0.r1.lt
  obtain ⟨G, hG⟩ : ∃ G, G = w1.heap.size := ⟨_, rfl⟩
  rw [← hG] at k1 hgt
  rw [← hG]
  refine name_world (fun w2 hw2 => ?_)
  rw [← hw2] at hA1 k1
  clear hw2 hG hA0
  have hth : w2.there M 5 ((crtC c)).size := blk_there hA1.r1 (by show 5 + 8 ≤ 45; omega)
  go_upto_region 27 with (first
    | (refine wpList_row_at rfl _ _ rfl G rfl _ _ _ _ k1 Tryz.underlying24 rfl crtInfo ?_)
    | (refine wpList_store_midN rfl _ _ _ rfl M 5 (crtC c) rfl rfl hth crtInfo (crtC_ones _) ?_; rintro w3 hw3; have hA : MdAt w M (madeM k (.crt c)) nS0 nS0 nS0 w3 := (by rw [hw3]; exact hA1.crt c); clear hw3 hth hA1 k1))
  go_wp2_with (first
    | (refine wpList_row_at rfl _ _ rfl M rfl _ _ _ _ hA.r1 Tryz.underlying39 rfl mesInfo ?_)
    | (refine wpList_store_row rfl _ _ _ rfl w.heap.size (mesC (madeM k (.crt c)) nS0 nS0 nS0) rfl rfl _ _ hA.r0 mesInfo rfl (by kernel_rfl) ?_))
  (try simp only [Exit.inBlock, Exit.then])
  refine bodyPost_ret (v := .agg (mesC (madeM k (.crt c)) nS0 nS0 nS0)) (results_row rfl _ _ w.heap.size rfl _ (mesC (madeM k (.crt c)) nS0 nS0 nS0) _ _ (blk_setRow hA.r0) Tryz.underlying39 rfl mesInfo) rfl ?_
  exact ⟨rfl, below_setRow hA.bw (Nat.le_refl _)⟩
set_option maxHeartbeats 2000000 in
set_option maxRecDepth 100000 in
theorem made_T (k : Int) (t : Tmo) (w : World) : Calls Tryz.prog 18 #[.int .i64 k, .iface 26 (.agg (tmC t))] w (gives (.agg (mesC (madeM k (.tmo t)) nS0 nS0 nS0)) w) := by
  have k0 := mes_new w 39 zeroM nS0 nS0 nS0
  have hb0 := below_new w (.cells (mesC zeroM nS0 nS0 nS0) 39)
  have F0 := Lib.hid (And.intro k0 hb0)
  clear k0 hb0
  have asB := as_TB
  have asC := as_TC
  have asT := as_TT
  go_enter Tryz.func18, Tryz.ntmps18
  go_upto_region 1 with fail
  refine name_world (fun w0 hw0 => ?_)
  have hK0 : Blk w0 w.heap.size 39 (mesC zeroM nS0 nS0 nS0) := by rw [hw0]; exact F0.out.1
  have hB0 : Below w.heap.size w w0 := by rw [hw0]; exact F0.out.2
  clear hw0 F0
  go_upto_region 2 with (first
    | (refine wpList_build rfl _ _ rfl #[(0, .int .i64 k)] rfl (build_mk k _) ?_)
    | (refine wpList_store_new rfl _ _ _ rfl _ (mesC { zeroM with kind := k } nS0 nS0 nS0) rfl rfl _ _ mesInfo rfl (mesC_onesZ _) ?_))
  have hA0 := md_mk k hK0 hB0
  obtain ⟨M, hM⟩ : ∃ M, M = w0.heap.size := ⟨_, rfl⟩
  rw [← hM] at hA0
  rw [← hM]
  refine name_world (fun w1 hw1 => ?_)
  rw [← hw1] at hA0
  clear hw1 hM hK0 hB0
  go_upto_region 11 with (refine wpList_store_new rfl _ _ _ rfl _ (tmC t) rfl rfl _ _ tmInfo rfl (tmC_ones _) ?_)
  have hA1 := hA0.alloc (.cells (tmC t) 26)
  have k1 : Blk (w1.alloc (.cells (tmC t) 26)) w1.heap.size 26 (tmC t) := Blk.new _ _ _
  have hgt : M < w1.heap.size := hA0.r1.lt
  obtain ⟨G, hG⟩ : ∃ G, G = w1.heap.size := ⟨_, rfl⟩
  rw [← hG] at k1 hgt
  rw [← hG]
  refine name_world (fun w2 hw2 => ?_)
  rw [← hw2] at hA1 k1
  clear hw2 hG hA0
  have hth : w2.there M 13 ((tmC t)).size := blk_there hA1.r1 (by show 13 + 10 ≤ 45; omega)
  go_upto_region 27 with (first
    | (refine wpList_row_at rfl _ _ rfl G rfl _ _ _ _ k1 Tryz.underlying26 rfl tmInfo ?_)
    | (refine wpList_store_midN rfl _ _ _ rfl M 13 (tmC t) rfl rfl hth tmInfo (tmC_ones _) ?_; rintro w3 hw3; have hA : MdAt w M (madeM k (.tmo t)) nS0 nS0 nS0 w3 := (by rw [hw3]; exact hA1.tmo t); clear hw3 hth hA1 k1))
  go_wp2_with (first
    | (refine wpList_row_at rfl _ _ rfl M rfl _ _ _ _ hA.r1 Tryz.underlying39 rfl mesInfo ?_)
    | (refine wpList_store_row rfl _ _ _ rfl w.heap.size (mesC (madeM k (.tmo t)) nS0 nS0 nS0) rfl rfl _ _ hA.r0 mesInfo rfl (by kernel_rfl) ?_))
  (try simp only [Exit.inBlock, Exit.then])
  refine bodyPost_ret (v := .agg (mesC (madeM k (.tmo t)) nS0 nS0 nS0)) (results_row rfl _ _ w.heap.size rfl _ (mesC (madeM k (.tmo t)) nS0 nS0 nS0) _ _ (blk_setRow hA.r0) Tryz.underlying39 rfl mesInfo) rfl ?_
  exact ⟨rfl, below_setRow hA.bw (Nat.le_refl _)⟩
set_option maxHeartbeats 2000000 in
set_option maxRecDepth 100000 in
theorem made_P (k : Int) (l : List Tmo) (A : Option Addr) (n c : Nat) (w : World) : Calls Tryz.prog 18 #[.int .i64 k, .iface 27 (.slice A n c)] w (gives (.agg (mesC (madeM k (.prf l)) (.slice A n c) nS0 nS0)) w) := by
  have k0 := mes_new w 39 zeroM nS0 nS0 nS0
  have hb0 := below_new w (.cells (mesC zeroM nS0 nS0 nS0) 39)
  have F0 := Lib.hid (And.intro k0 hb0)
  clear k0 hb0
  have asB := as_PB
  have asC := as_PC
  have asT := as_PT
  have asP := as_PP
  go_enter Tryz.func18, Tryz.ntmps18
  go_upto_region 1 with fail
  refine name_world (fun w0 hw0 => ?_)
  have hK0 : Blk w0 w.heap.size 39 (mesC zeroM nS0 nS0 nS0) := by rw [hw0]; exact F0.out.1
  have hB0 : Below w.heap.size w w0 := by rw [hw0]; exact F0.out.2
  clear hw0 F0
  go_upto_region 2 with (first
    | (refine wpList_build rfl _ _ rfl #[(0, .int .i64 k)] rfl (build_mk k _) ?_)
    | (refine wpList_store_new rfl _ _ _ rfl _ (mesC { zeroM with kind := k } nS0 nS0 nS0) rfl rfl _ _ mesInfo rfl (mesC_onesZ _) ?_))
  have hA0 := md_mk k hK0 hB0
  obtain ⟨M, hM⟩ : ∃ M, M = w0.heap.size := ⟨_, rfl⟩
  rw [← hM] at hA0
  rw [← hM]
  refine name_world (fun w1 hw1 => ?_)
  rw [← hw1] at hA0
  clear hw1 hM hK0 hB0
  have o0 : w1.cell? ⟨M, 23, none⟩ = some nS0 := hA0.r1.cell 23
  have f0 := hA0.r1.frozen 23
  have hA : MdAt w M (madeM k (.prf l)) (.slice A n c) nS0 nS0 (w1.setCell ⟨M, 23, none⟩ (.slice A n c)) := hA0.cell 23 _ (by kernel_rfl)
  unfold nS0 at o0
  go_upto_region 27 with fail
  refine name_world (fun w2 hw2 => ?_)
  rw [← hw2] at hA
  clear hw2 o0 f0
  go_wp2_with (first
    | (refine wpList_row_at rfl _ _ rfl M rfl _ _ _ _ hA.r1 Tryz.underlying39 rfl mesInfo ?_)
    | (refine wpList_store_row rfl _ _ _ rfl w.heap.size (mesC (madeM k (.prf l)) (.slice A n c) nS0 nS0) rfl rfl _ _ hA.r0 mesInfo rfl (by kernel_rfl) ?_))
  (try simp only [Exit.inBlock, Exit.then])
  refine bodyPost_ret (v := .agg (mesC (madeM k (.prf l)) (.slice A n c) nS0 nS0)) (results_row rfl _ _ w.heap.size rfl _ (mesC (madeM k (.prf l)) (.slice A n c) nS0 nS0) _ _ (blk_setRow hA.r0) Tryz.underlying39 rfl mesInfo) rfl ?_
  exact ⟨rfl, below_setRow hA.bw (Nat.le_refl _)⟩
set_option maxHeartbeats 2000000 in
set_option maxRecDepth 100000 in
theorem made_X (k : Int) (t : Txx) (w : World) : Calls Tryz.prog 18 #[.int .i64 k, .iface 32 (.agg (txC t))] w (gives (.agg (mesC (madeM k (.txx t)) nS0 nS0 nS0)) w) := by
  have k0 := mes_new w 39 zeroM nS0 nS0 nS0
  have hb0 := below_new w (.cells (mesC zeroM nS0 nS0 nS0) 39)
  have F0 := Lib.hid (And.intro k0 hb0)
  clear k0 hb0
  have asB := as_XB
  have asC := as_XC
  have asT := as_XT
  have asP := as_XP
  have asX := as_XX
  go_enter Tryz.func18, Tryz.ntmps18
  go_upto_region 1 with fail
  refine name_world (fun w0 hw0 => ?_)
  have hK0 : Blk w0 w.heap.size 39 (mesC zeroM nS0 nS0 nS0) := by rw [hw0]; exact F0.out.1
  have hB0 : Below w.heap.size w w0 := by rw [hw0]; exact F0.out.2
  clear hw0 F0
  go_upto_region 2 with (first
    | (refine wpList_build rfl _ _ rfl #[(0, .int .i64 k)] rfl (build_mk k _) ?_)
    | (refine wpList_store_new rfl _ _ _ rfl _ (mesC { zeroM with kind := k } nS0 nS0 nS0) rfl rfl _ _ mesInfo rfl (mesC_onesZ _) ?_))
  have hA0 := md_mk k hK0 hB0
  obtain ⟨M, hM⟩ : ∃ M, M = w0.heap.size := ⟨_, rfl⟩
  rw [← hM] at hA0
  rw [← hM]
  refine name_world (fun w1 hw1 => ?_)
  rw [← hw1] at hA0
  clear hw1 hM hK0 hB0
  go_upto_region 17 with (refine wpList_store_new rfl _ _ _ rfl _ (txC t) rfl rfl _ _ txInfo rfl (txC_ones _) ?_)
  have hA1 := hA0.alloc (.cells (txC t) 32)
  have k1 : Blk (w1.alloc (.cells (txC t) 32)) w1.heap.size 32 (txC t) := Blk.new _ _ _
  have hgt : M < w1.heap.size := hA0.r1.lt
  obtain ⟨G, hG⟩ : ∃ G, G = w1.heap.size := ⟨_, rfl⟩
  rw [← hG] at k1 hgt
  rw [← hG]
  refine name_world (fun w2 hw2 => ?_)
  rw [← hw2] at hA1 k1
  clear hw2 hG hA0
  have hth : w2.there M 38 ((txC t)).size := blk_there hA1.r1 (by show 38 + 7 ≤ 45; omega)
  go_upto_region 27 with (first
    | (refine wpList_row_at rfl _ _ rfl G rfl _ _ _ _ k1 Tryz.underlying32 rfl txInfo ?_)
    | (refine wpList_store_midN rfl _ _ _ rfl M 38 (txC t) rfl rfl hth txInfo (txC_ones _) ?_; rintro w3 hw3; have hA : MdAt w M (madeM k (.txx t)) nS0 nS0 nS0 w3 := (by rw [hw3]; exact hA1.txx t); clear hw3 hth hA1 k1))
  go_wp2_with (first
    | (refine wpList_row_at rfl _ _ rfl M rfl _ _ _ _ hA.r1 Tryz.underlying39 rfl mesInfo ?_)
    | (refine wpList_store_row rfl _ _ _ rfl w.heap.size (mesC (madeM k (.txx t)) nS0 nS0 nS0) rfl rfl _ _ hA.r0 mesInfo rfl (by kernel_rfl) ?_))
  (try simp only [Exit.inBlock, Exit.then])
  refine bodyPost_ret (v := .agg (mesC (madeM k (.txx t)) nS0 nS0 nS0)) (results_row rfl _ _ w.heap.size rfl _ (mesC (madeM k (.txx t)) nS0 nS0 nS0) _ _ (blk_setRow hA.r0) Tryz.underlying39 rfl mesInfo) rfl ?_
  exact ⟨rfl, below_setRow hA.bw (Nat.le_refl _)⟩
set_option maxHeartbeats 2000000 in
set_option maxRecDepth 100000 in
theorem made_I (k : Int) (s n : Int) (w : World) : Calls Tryz.prog 18 #[.int .i64 k, .iface 75 (.agg #[.int .i64 s, .int .i64 n])] w (gives (.agg (mesC (madeM k (.inv s n)) nS0 nS0 nS0)) w) := by
  have k0 := mes_new w 39 zeroM nS0 nS0 nS0
  have hb0 := below_new w (.cells (mesC zeroM nS0 nS0 nS0) 39)
  have F0 := Lib.hid (And.intro k0 hb0)
  clear k0 hb0
  have asB := as_IB
  have asC := as_IC
  have asT := as_IT
  have asP := as_IP
  have asX := as_IX
  have asI := as_II
  go_enter Tryz.func18, Tryz.ntmps18
  go_upto_region 1 with fail
  refine name_world (fun w0 hw0 => ?_)
  have hK0 : Blk w0 w.heap.size 39 (mesC zeroM nS0 nS0 nS0) := by rw [hw0]; exact F0.out.1
  have hB0 : Below w.heap.size w w0 := by rw [hw0]; exact F0.out.2
  clear hw0 F0
  go_upto_region 2 with (first
    | (refine wpList_build rfl _ _ rfl #[(0, .int .i64 k)] rfl (build_mk k _) ?_)
    | (refine wpList_store_new rfl _ _ _ rfl _ (mesC { zeroM with kind := k } nS0 nS0 nS0) rfl rfl _ _ mesInfo rfl (mesC_onesZ _) ?_))
  have hA0 := md_mk k hK0 hB0
  obtain ⟨M, hM⟩ : ∃ M, M = w0.heap.size := ⟨_, rfl⟩
  rw [← hM] at hA0
  rw [← hM]
  refine name_world (fun w1 hw1 => ?_)
  rw [← hw1] at hA0
  clear hw1 hM hK0 hB0
  go_upto_region 20 with (refine wpList_store_new rfl _ _ _ rfl _ #[.int .i64 s, .int .i64 n] rfl rfl _ _ (invInfo _ _) rfl rfl ?_)
  have hA1 := hA0.alloc (.cells #[.int .i64 s, .int .i64 n] 75)
  have k1 : Blk (w1.alloc (.cells #[.int .i64 s, .int .i64 n] 75)) w1.heap.size 75 #[.int .i64 s, .int .i64 n] := Blk.new _ _ _
  have hgt : M < w1.heap.size := hA0.r1.lt
  obtain ⟨G, hG⟩ : ∃ G, G = w1.heap.size := ⟨_, rfl⟩
  rw [← hG] at k1 hgt
  rw [← hG]
  refine name_world (fun w2 hw2 => ?_)
  rw [← hw2] at hA1 k1
  clear hw2 hG hA0
  go_upto_region 20 with fail
  have c0 : w2.cell? ⟨G, 0, none⟩ = some (.int .i64 s) := k1.cell 0
  have c1 : w2.cell? ⟨G, 1, none⟩ = some (.int .i64 n) := k1.cell 1
  have o0 : w2.cell? ⟨M, 1, none⟩ = some (.int .i64 0) := hA1.r1.cell 1
  have o1 : w2.cell? ⟨M, 2, none⟩ = some (.int .i64 0) := hA1.r1.cell 2
  have f0 := hA1.r1.frozen 1
  have f1 := hA1.r1.frozen 2
  go_region_held3 (fun wx => wx.cell? ⟨G, 0, none⟩ = some (.int .i64 s) ∧ wx.cell? ⟨G, 1, none⟩ = some (.int .i64 n)) (first | exact ⟨by assumption, by assumption⟩ | exact keep2_set (by omega) (by assumption)) (fail)
  have hA2 : MdAt w M { zeroM with kind := k, signer := s } nS0 nS0 nS0 (w2.setCell ⟨M, 1, none⟩ (.int .i64 s)) := hA1.cell 1 _ (by kernel_rfl)
  have hA3 : MdAt w M (madeM k (.inv s n)) nS0 nS0 nS0 ((w2.setCell ⟨M, 1, none⟩ (.int .i64 s)).setCell ⟨M, 2, none⟩ (.int .i64 n)) := hA2.cell 2 _ (by kernel_rfl)
  have hA := hA3.below (Below.refl _ _).drew
  clear c0 c1 o0 o1 f0 f1 hA1 hA2 hA3 k1
  go_upto_region 27 with fail
  refine name_world (fun w5 hw5 => ?_)
  rw [← hw5] at hA
  clear hw5
  go_wp2_with (first
    | (refine wpList_row_at rfl _ _ rfl M rfl _ _ _ _ hA.r1 Tryz.underlying39 rfl mesInfo ?_)
    | (refine wpList_store_row rfl _ _ _ rfl w.heap.size (mesC (madeM k (.inv s n)) nS0 nS0 nS0) rfl rfl _ _ hA.r0 mesInfo rfl (by kernel_rfl) ?_))
  (try simp only [Exit.inBlock, Exit.then])
  refine bodyPost_ret (v := .agg (mesC (madeM k (.inv s n)) nS0 nS0 nS0)) (results_row rfl _ _ w.heap.size rfl _ (mesC (madeM k (.inv s n)) nS0 nS0 nS0) _ _ (blk_setRow hA.r0) Tryz.underlying39 rfl mesInfo) rfl ?_
  exact ⟨rfl, below_setRow hA.bw (Nat.le_refl _)⟩
set_option maxHeartbeats 2000000 in
set_option maxRecDepth 100000 in
theorem made_E (k : Int) (n : Int) (s : Nat) (w : World) : Calls Tryz.prog 18 #[.int .i64 k, .iface 77 (.agg #[.int .i64 n, .int .u32 s])] w (gives (.agg (mesC (madeM k (.ele n s)) nS0 nS0 nS0)) w) := by
  have k0 := mes_new w 39 zeroM nS0 nS0 nS0
  have hb0 := below_new w (.cells (mesC zeroM nS0 nS0 nS0) 39)
  have F0 := Lib.hid (And.intro k0 hb0)
  clear k0 hb0
  have asB := as_EB
  have asC := as_EC
  have asT := as_ET
  have asP := as_EP
  have asX := as_EX
  have asI := as_EI
  have asE := as_EE
  go_enter Tryz.func18, Tryz.ntmps18
  go_upto_region 1 with fail
  refine name_world (fun w0 hw0 => ?_)
  have hK0 : Blk w0 w.heap.size 39 (mesC zeroM nS0 nS0 nS0) := by rw [hw0]; exact F0.out.1
  have hB0 : Below w.heap.size w w0 := by rw [hw0]; exact F0.out.2
  clear hw0 F0
  go_upto_region 2 with (first
    | (refine wpList_build rfl _ _ rfl #[(0, .int .i64 k)] rfl (build_mk k _) ?_)
    | (refine wpList_store_new rfl _ _ _ rfl _ (mesC { zeroM with kind := k } nS0 nS0 nS0) rfl rfl _ _ mesInfo rfl (mesC_onesZ _) ?_))
  have hA0 := md_mk k hK0 hB0
  obtain ⟨M, hM⟩ : ∃ M, M = w0.heap.size := ⟨_, rfl⟩
  rw [← hM] at hA0
  rw [← hM]
  refine name_world (fun w1 hw1 => ?_)
  rw [← hw1] at hA0
  clear hw1 hM hK0 hB0
  go_upto_region 23 with (refine wpList_store_new rfl _ _ _ rfl _ #[.int .i64 n, .int .u32 s] rfl rfl _ _ (eleInfo _ _) rfl rfl ?_)
  have hA1 := hA0.alloc (.cells #[.int .i64 n, .int .u32 s] 77)
  have k1 : Blk (w1.alloc (.cells #[.int .i64 n, .int .u32 s] 77)) w1.heap.size 77 #[.int .i64 n, .int .u32 s] := Blk.new _ _ _
  have hgt : M < w1.heap.size := hA0.r1.lt
  obtain ⟨G, hG⟩ : ∃ G, G = w1.heap.size := ⟨_, rfl⟩
  rw [← hG] at k1 hgt
  rw [← hG]
  refine name_world (fun w2 hw2 => ?_)
  rw [← hw2] at hA1 k1
  clear hw2 hG hA0
  go_upto_region 23 with fail
  have c0 : w2.cell? ⟨G, 0, none⟩ = some (.int .i64 n) := k1.cell 0
  have c1 : w2.cell? ⟨G, 1, none⟩ = some (.int .u32 s) := k1.cell 1
  have o0 : w2.cell? ⟨M, 2, none⟩ = some (.int .i64 0) := hA1.r1.cell 2
  have o1 : w2.cell? ⟨M, 4, none⟩ = some (.int .u32 0) := hA1.r1.cell 4
  have f0 := hA1.r1.frozen 2
  have f1 := hA1.r1.frozen 4
  go_region_held3 (fun wx => wx.cell? ⟨G, 0, none⟩ = some (.int .i64 n) ∧ wx.cell? ⟨G, 1, none⟩ = some (.int .u32 s)) (first | exact ⟨by assumption, by assumption⟩ | exact keep2_set (by omega) (by assumption)) (fail)
  have hA2 : MdAt w M { zeroM with kind := k, view := n } nS0 nS0 nS0 (w2.setCell ⟨M, 2, none⟩ (.int .i64 n)) := hA1.cell 2 _ (by kernel_rfl)
  have hA3 : MdAt w M (madeM k (.ele n s)) nS0 nS0 nS0 ((w2.setCell ⟨M, 2, none⟩ (.int .i64 n)).setCell ⟨M, 4, none⟩ (.int .u32 s)) := hA2.cell 4 _ (by kernel_rfl)
  have hA := hA3.below (Below.refl _ _).drew
  clear c0 c1 o0 o1 f0 f1 hA1 hA2 hA3 k1
  go_upto_region 27 with fail
  refine name_world (fun w5 hw5 => ?_)
  rw [← hw5] at hA
  clear hw5
  go_wp2_with (first
    | (refine wpList_row_at rfl _ _ rfl M rfl _ _ _ _ hA.r1 Tryz.underlying39 rfl mesInfo ?_)
    | (refine wpList_store_row rfl _ _ _ rfl w.heap.size (mesC (madeM k (.ele n s)) nS0 nS0 nS0) rfl rfl _ _ hA.r0 mesInfo rfl (by kernel_rfl) ?_))
  (try simp only [Exit.inBlock, Exit.then])
  refine bodyPost_ret (v := .agg (mesC (madeM k (.ele n s)) nS0 nS0 nS0)) (results_row rfl _ _ w.heap.size rfl _ (mesC (madeM k (.ele n s)) nS0 nS0 nS0) _ _ (blk_setRow hA.r0) Tryz.underlying39 rfl mesInfo) rfl ?_
  exact ⟨rfl, below_setRow hA.bw (Nat.le_refl _)⟩
set_option maxHeartbeats 2000000 in
set_option maxRecDepth 100000 in
theorem made_W (k : Int) (s n : Int) (w : World) : Calls Tryz.prog 18 #[.int .i64 k, .iface 79 (.agg #[.int .i64 s, .int .i64 n])] w (gives (.agg (mesC (madeM k (.wan s n)) nS0 nS0 nS0)) w) := by
  have k0 := mes_new w 39 zeroM nS0 nS0 nS0
  have hb0 := below_new w (.cells (mesC zeroM nS0 nS0 nS0) 39)
  have F0 := Lib.hid (And.intro k0 hb0)
  clear k0 hb0
  have asB := as_WB
  have asC := as_WC
  have asT := as_WT
  have asP := as_WP
  have asX := as_WX
  have asI := as_WI
  have asE := as_WE
  have asW := as_WW
  go_enter Tryz.func18, Tryz.ntmps18
  go_upto_region 1 with fail
  refine name_world (fun w0 hw0 => ?_)
  have hK0 : Blk w0 w.heap.size 39 (mesC zeroM nS0 nS0 nS0) := by rw [hw0]; exact F0.out.1
  have hB0 : Below w.heap.size w w0 := by rw [hw0]; exact F0.out.2
  clear hw0 F0
  go_upto_region 2 with (first
    | (refine wpList_build rfl _ _ rfl #[(0, .int .i64 k)] rfl (build_mk k _) ?_)
    | (refine wpList_store_new rfl _ _ _ rfl _ (mesC { zeroM with kind := k } nS0 nS0 nS0) rfl rfl _ _ mesInfo rfl (mesC_onesZ _) ?_))
  have hA0 := md_mk k hK0 hB0
  obtain ⟨M, hM⟩ : ∃ M, M = w0.heap.size := ⟨_, rfl⟩
  rw [← hM] at hA0
  rw [← hM]
  refine name_world (fun w1 hw1 => ?_)
  rw [← hw1] at hA0
  clear hw1 hM hK0 hB0
  go_upto_region 26 with (refine wpList_store_new rfl _ _ _ rfl _ #[.int .i64 s, .int .i64 n] rfl rfl _ _ (wanInfo _ _) rfl rfl ?_)
  have hA1 := hA0.alloc (.cells #[.int .i64 s, .int .i64 n] 79)
  have k1 : Blk (w1.alloc (.cells #[.int .i64 s, .int .i64 n] 79)) w1.heap.size 79 #[.int .i64 s, .int .i64 n] := Blk.new _ _ _
  have hgt : M < w1.heap.size := hA0.r1.lt
  obtain ⟨G, hG⟩ : ∃ G, G = w1.heap.size := ⟨_, rfl⟩
  rw [← hG] at k1 hgt
  rw [← hG]
  refine name_world (fun w2 hw2 => ?_)
  rw [← hw2] at hA1 k1
  clear hw2 hG hA0
  go_upto_region 26 with fail
  have c0 : w2.cell? ⟨G, 0, none⟩ = some (.int .i64 s) := k1.cell 0
  have c1 : w2.cell? ⟨G, 1, none⟩ = some (.int .i64 n) := k1.cell 1
  have o0 : w2.cell? ⟨M, 1, none⟩ = some (.int .i64 0) := hA1.r1.cell 1
  have o1 : w2.cell? ⟨M, 3, none⟩ = some (.int .i64 0) := hA1.r1.cell 3
  have f0 := hA1.r1.frozen 1
  have f1 := hA1.r1.frozen 3
  go_region_held3 (fun wx => wx.cell? ⟨G, 0, none⟩ = some (.int .i64 s) ∧ wx.cell? ⟨G, 1, none⟩ = some (.int .i64 n)) (first | exact ⟨by assumption, by assumption⟩ | exact keep2_set (by omega) (by assumption)) (fail)
  have hA2 : MdAt w M { zeroM with kind := k, signer := s } nS0 nS0 nS0 (w2.setCell ⟨M, 1, none⟩ (.int .i64 s)) := hA1.cell 1 _ (by kernel_rfl)
  have hA3 : MdAt w M (madeM k (.wan s n)) nS0 nS0 nS0 ((w2.setCell ⟨M, 1, none⟩ (.int .i64 s)).setCell ⟨M, 3, none⟩ (.int .i64 n)) := hA2.cell 3 _ (by kernel_rfl)
  have hA := hA3.below (Below.refl _ _).drew
  clear c0 c1 o0 o1 f0 f1 hA1 hA2 hA3 k1
  go_upto_region 27 with fail
  refine name_world (fun w5 hw5 => ?_)
  rw [← hw5] at hA
  clear hw5
  go_wp2_with (first
    | (refine wpList_row_at rfl _ _ rfl M rfl _ _ _ _ hA.r1 Tryz.underlying39 rfl mesInfo ?_)
    | (refine wpList_store_row rfl _ _ _ rfl w.heap.size (mesC (madeM k (.wan s n)) nS0 nS0 nS0) rfl rfl _ _ hA.r0 mesInfo rfl (by kernel_rfl) ?_))
  (try simp only [Exit.inBlock, Exit.then])
  refine bodyPost_ret (v := .agg (mesC (madeM k (.wan s n)) nS0 nS0 nS0)) (results_row rfl _ _ w.heap.size rfl _ (mesC (madeM k (.wan s n)) nS0 nS0 nS0) _ _ (blk_setRow hA.r0) Tryz.underlying39 rfl mesInfo) rfl ?_
  exact ⟨rfl, below_setRow hA.bw (Nat.le_refl _)⟩
set_option maxHeartbeats 2000000 in
set_option maxRecDepth 100000 in
theorem made_N (k : Int)  (w : World) : Calls Tryz.prog 18 #[.int .i64 k, .nilIface] w (gives (.agg (mesC (madeM k (.non)) nS0 nS0 nS0)) w) := by
  have k0 := mes_new w 39 zeroM nS0 nS0 nS0
  have hb0 := below_new w (.cells (mesC zeroM nS0 nS0 nS0) 39)
  have F0 := Lib.hid (And.intro k0 hb0)
  clear k0 hb0
  have asB := as_NB
  have asC := as_NC
  have asT := as_NT
  have asP := as_NP
  have asX := as_NX
  have asI := as_NI
  have asE := as_NE
  have asW := as_NW
  go_enter Tryz.func18, Tryz.ntmps18
  go_upto_region 1 with fail
  refine name_world (fun w0 hw0 => ?_)
  have hK0 : Blk w0 w.heap.size 39 (mesC zeroM nS0 nS0 nS0) := by rw [hw0]; exact F0.out.1
  have hB0 : Below w.heap.size w w0 := by rw [hw0]; exact F0.out.2
  clear hw0 F0
  go_upto_region 2 with (first
    | (refine wpList_build rfl _ _ rfl #[(0, .int .i64 k)] rfl (build_mk k _) ?_)
    | (refine wpList_store_new rfl _ _ _ rfl _ (mesC { zeroM with kind := k } nS0 nS0 nS0) rfl rfl _ _ mesInfo rfl (mesC_onesZ _) ?_))
  have hA0 := md_mk k hK0 hB0
  obtain ⟨M, hM⟩ : ∃ M, M = w0.heap.size := ⟨_, rfl⟩
  rw [← hM] at hA0
  rw [← hM]
  refine name_world (fun w1 hw1 => ?_)
  rw [← hw1] at hA0
  clear hw1 hM hK0 hB0
  have hA : MdAt w M (madeM k .non) nS0 nS0 nS0 w1 := hA0
  go_wp2_with (first
    | (refine wpList_row_at rfl _ _ rfl M rfl _ _ _ _ hA.r1 Tryz.underlying39 rfl mesInfo ?_)
    | (refine wpList_store_row rfl _ _ _ rfl w.heap.size (mesC (madeM k (.non)) nS0 nS0 nS0) rfl rfl _ _ hA.r0 mesInfo rfl (by kernel_rfl) ?_))
  (try simp only [Exit.inBlock, Exit.then])
  refine bodyPost_ret (v := .agg (mesC (madeM k (.non)) nS0 nS0 nS0)) (results_row rfl _ _ w.heap.size rfl _ (mesC (madeM k (.non)) nS0 nS0 nS0) _ _ (blk_setRow hA.r0) Tryz.underlying39 rfl mesInfo) rfl ?_
  exact ⟨rfl, below_setRow hA.bw (Nat.le_refl _)⟩
end Go.Proofs.YtgmejaiifibfoaaGreatDoor

/-
  The message that is made of what it has: of any part.
-/
set_option linter.unusedSimpArgs false
set_option linter.unusedVariables false
set_option maxRecDepth 10000
namespace Go.Proofs.YtgmejaiifibfoaaGreatDoor
open Go.RowKit Go.Maps Go.Lib

theorem made_is (k : Int) (p : Pt) (v : Value) (w : World) (h : PtIs w p v) : ∃ P Q T, (∀ W, Calls Tryz.prog 18 #[.int .i64 k, v] W (gives (.agg (mesC (madeM k p) P Q T)) W)) ∧ (∀ W, Below w.heap.size w W → LiesM W (madeM k p) P Q T) := by
  cases p
  case blk b =>
    obtain ⟨P, T, rfl, A, c, D, d, rfl, rfl, hp, ht⟩ := h
    exact ⟨_, _, _, fun W => made_B k b A _ c D _ d W, fun W hb => ⟨none, 0, rfl, Rd.nil, A, c, D, d, rfl, rfl, hp.below hb, ht.below hb⟩⟩
  case crt c => obtain rfl : v = _ := h; exact ⟨_, _, _, fun W => made_C k c W, fun W hb => liesM_zero W _ rfl rfl⟩
  case tmo t => obtain rfl : v = _ := h; exact ⟨_, _, _, fun W => made_T k t W, fun W hb => liesM_zero W _ rfl rfl⟩
  case prf l =>
    obtain ⟨A, c, rfl, hr⟩ := h
    exact ⟨_, _, _, fun W => made_P k l A _ c W, fun W hb => ⟨A, c, rfl, hr.below hb, lies_zero W⟩⟩
  case inv s n => obtain rfl : v = _ := h; exact ⟨_, _, _, fun W => made_I k s n W, fun W hb => liesM_zero W _ rfl rfl⟩
  case ele n s => obtain rfl : v = _ := h; exact ⟨_, _, _, fun W => made_E k n s W, fun W hb => liesM_zero W _ rfl rfl⟩
  case wan s n => obtain rfl : v = _ := h; exact ⟨_, _, _, fun W => made_W k s n W, fun W hb => liesM_zero W _ rfl rfl⟩
  case txx t => obtain rfl : v = _ := h; exact ⟨_, _, _, fun W => made_X k t W, fun W hb => liesM_zero W _ rfl rfl⟩
  case non => obtain rfl : v = _ := h; exact ⟨_, _, _, fun W => made_N k W, fun W hb => liesM_zero W _ rfl rfl⟩
end Go.Proofs.YtgmejaiifibfoaaGreatDoor
