/-
  Texts of one layer in one: L11Val, L11CheckC, L11BytesC, L11ReadC, L11RefBytes, L11StmtC, L11RefStmt, L11TakeC.
-/
import Derived.Test.YtgmejaiifibfoaaGreatDoorL3
import Derived.Test.YtgmejaiifibfoaaGreatDoorL4
import Derived.Test.YtgmejaiifibfoaaGreatDoorParts
import Derived.Maps.OwnSet
import Derived.Maps.AppendAt
import Derived.DeepKeys5
import Derived.Laws.StructEq
import Derived.Laws.Tables
import Derived.Deep.RegionHeld3
import Derived.Deep.DeepCutAuto
import Derived.Deep.QuietTactic
import Derived.BigQuiet
import Derived.OrdersHeld
import Derived.StillTail
import Derived.StillTactics

/-
  Certificates and statements as values: their cells, which are the same; which may be, what was signed.
-/
set_option linter.unusedSimpArgs false
set_option linter.unusedVariables false
namespace Go.Proofs.YtgmejaiifibfoaaGreatDoor.L11
open Go.RowKit Go.Maps Go.Lib

theorem laidOut : laidOutB Tryz.prog = true := by kernel_rfl
def inI (n : Int) : Prop := -9223372036854775808 ≤ n ∧ n ≤ 9223372036854775807
def inU (n : Nat) : Prop := n < 4294967296
theorem inI.lit {n : Int} (h : inI n) : (Lit.int .i64 n).wf = true := WalkArith.wf_i64 h
theorem inU.lit {n : Nat} (h : inU n) : (Lit.int .u32 (n : Int)).wf = true := by
  unfold inU at h
  have h0 : IntKind.u32.min = 0 := rfl
  have h1 : IntKind.u32.max = 4294967295 := rfl
  simp only [Lit.wf, h0, h1, Bool.and_eq_true, decide_eq_true_eq]
  omega
/-- A certificate. -/
structure Crt where
  kind : Int
  block : Int
  view : Int
  round : Int
  height : Int
  author : Int
  sg : Nat
  co : Nat
deriving DecidableEq, Inhabited
/-- A statement's ten numbers. -/
structure Stm where
  a0 : Int
  a1 : Int
  a2 : Int
  a3 : Int
  a4 : Int
  a5 : Int
  a6 : Int
  a7 : Int
  a8 : Int
  a9 : Int
deriving DecidableEq, Inhabited
def zeroC : Crt := ⟨0, 0, 0, 0, 0, 0, 0, 0⟩
def zeroM : Stm := ⟨0, 0, 0, 0, 0, 0, 0, 0, 0, 0⟩
def crtL (c : Crt) : List Value := [.int .i64 c.kind, .int .i64 c.block, .int .i64 c.view, .int .i64 c.round, .int .i64 c.height, .int .i64 c.author, .int .u32 c.sg, .int .u32 c.co]
def crtC (c : Crt) : Array Value := #[.int .i64 c.kind, .int .i64 c.block, .int .i64 c.view, .int .i64 c.round, .int .i64 c.height, .int .i64 c.author, .int .u32 c.sg, .int .u32 c.co]
def stmL (s : Stm) : List Value := [.int .i64 s.a0, .int .i64 s.a1, .int .i64 s.a2, .int .i64 s.a3, .int .i64 s.a4, .int .i64 s.a5, .int .i64 s.a6, .int .i64 s.a7, .int .i64 s.a8, .int .i64 s.a9]
def stmC (s : Stm) : Array Value := #[.int .i64 s.a0, .int .i64 s.a1, .int .i64 s.a2, .int .i64 s.a3, .int .i64 s.a4, .int .i64 s.a5, .int .i64 s.a6, .int .i64 s.a7, .int .i64 s.a8, .int .i64 s.a9]
theorem crtC_eq (c : Crt) : (crtC c).toList = crtL c := rfl
theorem stmC_eq (s : Stm) : (stmC s).toList = stmL s := rfl
theorem crtC_ones (c : Crt) : (crtC c).all (·.oneCell') = true := by kernel_rfl
theorem stmC_ones (s : Stm) : (stmC s).all (·.oneCell') = true := by kernel_rfl
def Crt.wf (c : Crt) : Prop := inI c.kind ∧ inI c.block ∧ inI c.view ∧ inI c.round ∧ inI c.height ∧ inI c.author ∧ inU c.sg ∧ inU c.co
def Stm.wf (s : Stm) : Prop := inI s.a0 ∧ inI s.a1 ∧ inI s.a2 ∧ inI s.a3 ∧ inI s.a4 ∧ inI s.a5 ∧ inI s.a6 ∧ inI s.a7 ∧ inI s.a8 ∧ inI s.a9
theorem zeroC_wf : zeroC.wf := by refine ⟨?_, ?_, ?_, ?_, ?_, ?_, ?_, ?_⟩ <;> simp [inI, inU, zeroC]
theorem crtC_inj {x y : Crt} (h : crtC x = crtC y) : x = y := by
  obtain ⟨a0, a1, a2, a3, a4, a5, a6, a7⟩ := x
  obtain ⟨b0, b1, b2, b3, b4, b5, b6, b7⟩ := y
  simp only [crtC, Array.mk.injEq, List.cons.injEq, Value.int.injEq, true_and, and_true] at h
  obtain ⟨rfl, rfl, rfl, rfl, rfl, rfl, h6, h7⟩ := h
  obtain rfl : a6 = b6 := by omega
  obtain rfl : a7 = b7 := by omega
  rfl
theorem stmC_inj {x y : Stm} (h : stmC x = stmC y) : x = y := by
  obtain ⟨a0, a1, a2, a3, a4, a5, a6, a7, a8, a9⟩ := x
  obtain ⟨b0, b1, b2, b3, b4, b5, b6, b7, b8, b9⟩ := y
  simp only [stmC, Array.mk.injEq, List.cons.injEq, Value.int.injEq, true_and, and_true] at h
  obtain ⟨rfl, rfl, rfl, rfl, rfl, rfl, rfl, rfl, rfl, rfl⟩ := h
  rfl
theorem kdC : Keyed Tryz.prog 24 := Keyed.of_law (deep_law_laid laidOut (m := 3) (by omega) (of_decide_eq_true (by kernel_rfl)) (by kernel_rfl) (by kernel_rfl))
theorem cC : Tryz.prog.cellsOf 24 = 8 := by kernel_rfl
theorem cI : Tryz.prog.cellsOf 3 = 1 := by kernel_rfl
theorem cU : Tryz.prog.cellsOf 22 = 1 := by kernel_rfl
theorem kl_int (d : Nat) {n : Int} (h : inI n) : Tryz.prog.keyLits (d + 1) 3 [.int .i64 n] = some [.int .i64 n] := by
  simp [Program.keyLits, Tryz.underlying3, h.lit]
theorem kl_u32 (d : Nat) {n : Nat} (h : inU n) : Tryz.prog.keyLits (d + 1) 22 [.int .u32 (n : Int)] = some [.int .u32 (n : Int)] := by
  simp [Program.keyLits, Tryz.underlying22, h.lit]
theorem kl_crt (d : Nat) (c : Crt) (h : c.wf) : ∃ l, Tryz.prog.keyLits (d + 2) 24 (crtL c) = some l := by
  obtain ⟨h0, h1, h2, h3, h4, h5, h6, h7⟩ := h
  unfold Program.keyLits
  simp only [Tryz.underlying24]
  rw [if_pos ⟨cC.symm ▸ rfl, by kernel_rfl⟩]
  simp only [cI, cU, crtL, List.mapM_cons, List.mapM_nil, List.drop_zero, List.drop_succ_cons, List.take_succ_cons, List.take_zero, kl_int d h0, kl_int d h1, kl_int d h2, kl_int d h3, kl_int d h4, kl_int d h5, kl_u32 d h6, kl_u32 d h7]
  exact ⟨_, rfl⟩
theorem key_atC (x : Crt) (h : x.wf) : ∃ l, keyOf Tryz.prog 24 (.agg (crtC x)) = some l := by
  have hkt : Tryz.prog.keyType 24 = true := by kernel_rfl
  have hf : (Value.agg (crtC x)).formed Tryz.prog 24 = true := by kernel_rfl
  have hsz : 1 ≤ Tryz.prog.types.size := of_decide_eq_true (by kernel_rfl)
  obtain ⟨l, hl⟩ := kl_crt (Tryz.prog.types.size - 1) x h
  rw [show Tryz.prog.types.size - 1 + 2 = Tryz.prog.types.size + 1 by omega] at hl
  unfold keyOf
  simp only [Tryz.underlying24, hkt, hf, Bool.and_self, if_true, Value.cells, crtC_eq, hl, Option.map_some]
  exact ⟨_, rfl⟩
theorem equalC {x y : Crt} (hx : x.wf) (hy : y.wf) (w : World) : (Op.equal 24 (.agg (crtC x)) (.agg (crtC y))).run Tryz.prog w = .ok (decide (x = y)) w := by
  obtain ⟨lx, h1⟩ := key_atC x hx
  obtain ⟨ly, h2⟩ := key_atC y hy
  obtain ⟨r, hr, hi⟩ := run_equal_deep (P := Tryz.prog) w (m := 3) (by omega) (by kernel_rfl) (by kernel_rfl) h1 h2
  have : r = decide (x = y) := by
    rw [Bool.eq_iff_iff, hi, decide_eq_true_eq]
    constructor
    · intro h
      rw [h] at h1
      exact crtC_inj (Value.agg.inj (kdC.inj h1 h2))
    · intro h; subst h; rw [h1] at h2; injection h2
  rw [hr, this]
theorem eqlC {x y : Crt} (hx : x.wf) (hy : y.wf) (w : World) : (binOp .eql 24 (.agg (crtC x)) (.agg (crtC y))).run Tryz.prog w = .ok (.bool (decide (x = y))) w := by
  simp only [binOp, Sem.run_bind, equalC hx hy, Result.andThen_ok, Sem.run_pure]
theorem neqC {x y : Crt} (hx : x.wf) (hy : y.wf) (w : World) : (binOp .neq 24 (.agg (crtC x)) (.agg (crtC y))).run Tryz.prog w = .ok (.bool (!decide (x = y))) w := by
  simp only [binOp, Sem.run_bind, equalC hx hy, Result.andThen_ok, Sem.run_pure]
theorem build_zero (w : World) : (Instr.build 24 #[]).run Tryz.prog w = .ok (.agg (crtC zeroC)) w := run_build w _ _ _ (by kernel_rfl)
theorem crtInfo : (Tryz.prog.info? 24).map (·.size) = some 8 := by kernel_rfl
/-- In w block g holds these eight. -/
def Box (w : World) (g : Nat) (c : Crt) : Prop :=
  w.cell? ⟨g, 0, none⟩ = some (.int .i64 c.kind) ∧ w.cell? ⟨g, 1, none⟩ = some (.int .i64 c.block) ∧ w.cell? ⟨g, 2, none⟩ = some (.int .i64 c.view) ∧ w.cell? ⟨g, 3, none⟩ = some (.int .i64 c.round) ∧ w.cell? ⟨g, 4, none⟩ = some (.int .i64 c.height) ∧ w.cell? ⟨g, 5, none⟩ = some (.int .i64 c.author) ∧ w.cell? ⟨g, 6, none⟩ = some (.int .u32 c.sg) ∧ w.cell? ⟨g, 7, none⟩ = some (.int .u32 c.co)
theorem box_of {w : World} {g : Nat} {ty : TypeId} {c : Crt} (h : L3.Blk w g ty (crtC c)) : Box w g c := ⟨h.cell 0, h.cell 1, h.cell 2, h.cell 3, h.cell 4, h.cell 5, h.cell 6, h.cell 7⟩
theorem box_new (w : World) (ty : TypeId) (c : Crt) : L3.Blk (w.alloc (.cells (crtC c) ty)) w.heap.size ty (crtC c) := L3.Blk.new _ _ _
/-- Behind a call the argument's block is as it was. -/
theorem box_at {w w1 : World} {ty : TypeId} {c : Crt} (hb : Below (w.alloc (.cells (crtC c) ty)).heap.size (w.alloc (.cells (crtC c) ty)) w1) : Box w1 w.heap.size c := box_of ((box_new w ty c).below hb (by simp))
theorem below_box {w : World} (ty : TypeId) (c : Crt) : Below w.heap.size w (w.alloc (.cells (crtC c) ty)) := (Below.refl _ _).alloc (Nat.le_refl _) _
theorem nxt {w w1 w2 : World} (h1 : Below w.heap.size w w1) (h2 : Below w1.heap.size w1 w2) : Below w.heap.size w w2 := h1.trans (h2.mono h1.size)
/-- A call that hands back v and leaves all that was there. -/
def gives (v : Value) (w : World) (e : Ending) (w' : World) : Prop := e = .returned v ∧ Below w.heap.size w w'
/-- An error, or none. -/
def errI (b : Bool) (k : Int) : Int := if b = true then 0 else k
/-- A struct that is handed back out of its block. -/
theorem results_row {P : Program} {fn : Func} {d : Tmp} {ty : TypeId} (h : fn.results = #[.cell d ty]) (tmps : Array Value) (w : World) (g : Nat) (hx : tmps.getD d undef = .pointer (some ⟨g, 0, none⟩)) (t : TypeId) (cs : Array Value) (fr : Nat × Nat) (ds : TypeDesc)
    (hb : w.heap[g]? = some (.cells cs t fr)) (hu : P.underlying ty = some ds) (hd : (match ds with | .struct _ | .array _ _ => true | _ => false) = true) (hi : (P.info? ty).map (·.size) = some cs.size) : (results fn tmps).run P w = .ok (.agg cs) w := by
  have hx' : tmps[d]?.getD undef = .pointer (some ⟨g, 0, none⟩) := by simpa using hx
  simp [results, h, hx', asAddr, run_loadVar_row w g t ty cs fr ds hb hu hd hi]
/-- A store of a whole struct into a block. -/
theorem wpList_store_row {P : Program} {ops : Array Oper} {rest : List Oper} {o : Oper} {a : Act} {w : World} {Q : Exit → Act → World → Prop} (hw : Region.wanted o (yielded ops a.tmps) = true) (ty : TypeId) (x y : Operand) (ho : o.op = .store ty x y) (g : Nat) (cells : Array Value) (hx : a.eval x = .pointer (some ⟨g, 0, none⟩)) (hy : a.eval y = .agg cells)
    (t : TypeId) (old : Array Value) (hb : L3.Blk w g t old) (hi : (P.info? ty).map (·.size) = some cells.size) (hold : old.size = cells.size) (h1 : cells.all (·.oneCell') = true)
    (h : wpList P ops Q rest (a.put o.dst undef) (w.setRow g cells)) : wpList P ops Q (o :: rest) a w :=
  wpList_wanted hw fun _ hK => wp_store_row ty x y ho g cells hx hy t old hb hi hold h1 (hK _ _ h)
theorem blk_setRow {w : World} {g : Nat} {t : TypeId} {old cs : Array Value} (h : L3.Blk w g t old) : L3.Blk (w.setRow g cs) g t cs := by
  unfold L3.Blk World.setRow at *
  simp [Array.getElem?_modify, h]
theorem blk_far {w : World} {g G : Nat} {t : TypeId} {cs ds : Array Value} (h : L3.Blk w g t cs) (hg : G ≠ g) : L3.Blk (w.setRow G ds) g t cs := by
  unfold L3.Blk World.setRow at *
  simp [Array.getElem?_modify, hg, h]
theorem below_setRow {B : Nat} {w W : World} {g : Nat} {cs : Array Value} (h : Below B w W) (hg : B ≤ g) : Below B w (W.setRow g cs) := by
  refine h.trans ⟨rfl, rfl, rfl, by simp [World.setRow], fun i hi => ?_⟩
  have : ¬ g = i := by omega
  simp [World.setRow, Array.getElem?_modify, this]
/-- A binary operation on structs. -/
theorem wpList_binop {P : Program} {ops : Array Oper} {rest : List Oper} {o : Oper} {a : Act} {w : World} {Q : Exit → Act → World → Prop} (hw : Region.wanted o (yielded ops a.tmps) = true) (op : BinOp) (t : TypeId) (x y : Operand) (u : TypeId) (ho : o.op = .binOp op t x y u) (xs ys : Array Value)
    (hx : a.eval x = .agg xs) (hy : a.eval y = .agg ys) (hm : P.eqGuardType P.depth t = false) {v : Value} (hrun : (binOp op t (.agg xs) (.agg ys)).run P w = .ok v w)
    (h : wpList P ops Q rest (a.put o.dst v) w) : wpList P ops Q (o :: rest) a w := by
  refine wpList_wanted hw fun _ hK => ?_
  unfold Oper.wp
  simp only [execOp, ho, hx, hy, Sem.run_bind, run_eqGuard_agg w op t x y xs ys hm, hrun, Result.andThen_ok, Sem.run_pure]
  exact hK _ _ h
/-- A callee that keeps what is held: what it hands back is known. -/
theorem wpQuiet_fn {P : Program} {ops : Array Oper} {S : World → Prop} {o : Oper} {rest : List Oper} {a : Act} {Qa : Act → Prop} (hg : Region.wanted o (yielded ops a.tmps) = true) (f : FuncId) (xs : Array Operand) (ts : Array TypeId)
    (ho : o.op = .call { callee := .value (.func f), args := xs, argTypes := ts }) (hc : ∀ args w, (callFunc f args).run P w = .ok (.enter f args) w) (args : List Value) (ha : xs.toList.map a.eval = args) {v : Value}
    (hv : ∀ x : WorldIn S, Calls P f args.toArray x.w fun e w' => e = .returned v ∧ S w')
    (h : wpQuiet P ops (fun w' => ∃ x : WorldIn S, w' = x.w) Qa rest (a.put o.dst v)) : wpQuiet P ops (fun w' => ∃ x : WorldIn S, w' = x.w) Qa (o :: rest) a := by
  refine wpQuiet_call hg f args.toArray (fun w => ?_) hv h
  have ha' : xs.map a.eval = args.toArray := by apply Array.toList_inj.1; rw [Array.toList_map]; exact ha
  simp [execOp, ho, resolve, invoke, Deferred.ofValue, hc, ← ha', Act.eval]

/-- From least to most? -/
def okW (n lo hi : Int) : Bool := decide (lo ≤ n ∧ n ≤ hi)
/-- Replicas alone? -/
def setV (n : Nat) : Bool := decide (n < 1024)
/-- May the numbers be those that all but the genesis have? -/
def sgV (c : Crt) : Bool := okW c.block 1 2147483647 && okW c.view 1 1048576 && okW c.round 1 1073741824 && !decide (c.sg = 0) && setV c.sg
/-- May it be one? -/
def mayV (c : Crt) : Bool :=
  if c.kind = 0 then decide (c = zeroC)
  else if c.kind = 1 then sgV c && decide (c.height = 0) && decide (c.author = 0) && decide (c.co = 0)
  else if c.kind = 2 then sgV c && okW c.height 1 3 && okW c.author 0 9 && setV c.co
  else false
/-- What was signed. -/
def stmV (c : Crt) : Stm :=
  if c.kind = 1 then ⟨2, c.block, c.view, c.round, 0, 0, 0, 0, 0, 0⟩
  else if c.kind = 2 then ⟨4, c.block, c.view, c.round, c.height, c.author, 0, 0, 0, 0⟩
  else zeroM
theorem stmV_wf {c : Crt} (h : c.wf) : (stmV c).wf := by
  obtain ⟨h0, h1, h2, h3, h4, h5, _, _⟩ := h
  have i0 : inI 0 := by unfold inI; omega
  have i2 : inI 2 := by unfold inI; omega
  have i4 : inI 4 := by unfold inI; omega
  unfold stmV
  split
  · exact ⟨i2, h1, h2, h3, i0, i0, i0, i0, i0, i0⟩
  · split
    · exact ⟨i4, h1, h2, h3, h4, h5, i0, i0, i0, i0⟩
    · exact ⟨i0, i0, i0, i0, i0, i0, i0, i0, i0, i0⟩
/-- Without sets. -/
def plainV (c : Crt) : Crt := { c with sg := 0, co := 0 }
theorem plainV_wf {c : Crt} (h : c.wf) : (plainV c).wf := ⟨h.1, h.2.1, h.2.2.1, h.2.2.2.1, h.2.2.2.2.1, h.2.2.2.2.2.1, by unfold inU plainV; simp, by unfold inU plainV; simp⟩
end Go.Proofs.YtgmejaiifibfoaaGreatDoor.L11

/-
  Which certificates may be, by the code; which is endorsed; what was signed; without sets.
-/
set_option linter.unusedSimpArgs false
set_option linter.unusedVariables false
namespace Go.Proofs.YtgmejaiifibfoaaGreatDoor.L11
open Go.RowKit Go.Lib

theorem okW_mk {n lo hi : Int} (h0 : lo ≤ n) (h1 : n ≤ hi) : okW n lo hi = true := decide_eq_true ⟨h0, h1⟩
theorem okW_not {n lo hi : Int} (h : n < lo ∨ hi < n) : okW n lo hi = false := decide_eq_false (by omega)
theorem okW_le {n lo hi : Int} (h : okW n lo hi = true) : lo ≤ n ∧ n ≤ hi := of_decide_eq_true h
theorem within_any (n lo hi : Int) (w : World) : Calls Tryz.prog 109 #[.int .i64 n, .int .i64 lo, .int .i64 hi] w fun e w' => e = .returned (.bool (okW n lo hi)) ∧ w = w' := by
  by_cases h0 : lo ≤ n
  · by_cases h1 : n ≤ hi
    · have hk := okW_mk h0 h1
      go_enter Tryz.func109, Tryz.ntmps109
      go_wp2
      go_ret
      exact ⟨congrArg (fun b => Ending.returned (.bool b)) hk.symm, rfl⟩
    · have hk := okW_not (n := n) (lo := lo) (hi := hi) (by omega)
      go_enter Tryz.func109, Tryz.ntmps109
      go_wp2
      go_ret
      exact ⟨rfl, rfl⟩
  · have hk := okW_not (n := n) (lo := lo) (hi := hi) (by omega)
    go_enter Tryz.func109, Tryz.ntmps109
    go_wp2
    go_ret
    exact ⟨rfl, rfl⟩
theorem within_is (n lo hi : Int) (b : Bool) (w : World) (h : okW n lo hi = b) : Calls Tryz.prog 109 #[.int .i64 n, .int .i64 lo, .int .i64 hi] w fun e w' => e = .returned (.bool b) ∧ w = w' := by
  have := within_any n lo hi w; rw [h] at this; exact this
theorem replicas_any (n : Nat) (w : World) (hn : inU n) : Calls Tryz.prog 110 #[.int .u32 n] w fun e w' => e = .returned (.bool (setV n)) ∧ w = w' := by
  have hc := L4.check_any 3 n w hn
  have hv : L4.checkV 3 n = if n < 1024 then 0 else 40 := rfl
  by_cases h : n < 1024
  · rw [hv, if_pos h] at hc
    have hk : setV n = true := decide_eq_true h
    clear h hv
    go_enter Tryz.func110, Tryz.ntmps110
    go_wp2_with (go_at_call 50; refine hc.mono ?_; rintro e w1 ⟨rfl, rfl⟩)
    go_ret
    exact ⟨congrArg (fun b => Ending.returned (.bool b)) hk.symm, rfl⟩
  · rw [hv, if_neg h] at hc
    have hk : setV n = false := decide_eq_false h
    clear h hv
    go_enter Tryz.func110, Tryz.ntmps110
    go_wp2_with (go_at_call 50; refine hc.mono ?_; rintro e w1 ⟨rfl, rfl⟩)
    go_ret
    exact ⟨congrArg (fun b => Ending.returned (.bool b)) hk.symm, rfl⟩
theorem replicas_is (n : Nat) (b : Bool) (w : World) (hn : inU n) (h : setV n = b) : Calls Tryz.prog 110 #[.int .u32 n] w fun e w' => e = .returned (.bool b) ∧ w = w' := by
  have := replicas_any n w hn; rw [h] at this; exact this
/-- The first of five that is false, or none. -/
theorem five (a b c d e : Bool) : a = false ∨ (a = true ∧ b = false) ∨ (a = true ∧ b = true ∧ c = false) ∨ (a = true ∧ b = true ∧ c = true ∧ d = false) ∨ (a = true ∧ b = true ∧ c = true ∧ d = true ∧ e = false) ∨ (a = true ∧ b = true ∧ c = true ∧ d = true ∧ e = true) := by
  cases a <;> cases b <;> cases c <;> cases d <;> cases e <;> simp
theorem four (a b c d : Bool) : a = false ∨ (a = true ∧ b = false) ∨ (a = true ∧ b = true ∧ c = false) ∨ (a = true ∧ b = true ∧ c = true ∧ d = false) ∨ (a = true ∧ b = true ∧ c = true ∧ d = true) := by
  cases a <;> cases b <;> cases c <;> cases d <;> simp
theorem nat_is0 {n : Nat} (h : (!decide (n = 0)) = false) : ((n : Int) == 0) = true ∧ ((n : Int) != 0) = false := by
  have : n = 0 := by simpa using h
  subst this; exact ⟨rfl, rfl⟩
theorem nat_no0 {n : Nat} (h : (!decide (n = 0)) = true) : ((n : Int) == 0) = false ∧ ((n : Int) != 0) = true := by
  have : n ≠ 0 := by simpa using h
  constructor
  · simp; omega
  · simp; omega
set_option maxHeartbeats 1000000 in
set_option maxRecDepth 100000 in
theorem signed_any (c : Crt) (w : World) (h : c.wf) : Calls Tryz.prog 108 #[.agg (crtC c)] w (gives (.bool (sgV c)) w) := by
  have hu : inU c.sg := h.2.2.2.2.2.2.1
  have hb0 : Below w.heap.size w (w.alloc (.cells (crtC c) 24)) := below_box _ c
  obtain ⟨c0, c1, c2, c3, c4, c5, c6, c7⟩ := box_of (box_new w 24 c)
  have e : sgV c = (okW c.block 1 2147483647 && okW c.view 1 1048576 && okW c.round 1 1073741824 && !decide (c.sg = 0) && setV c.sg) := rfl
  clear h
  rcases five (okW c.block 1 2147483647) (okW c.view 1 1048576) (okW c.round 1 1073741824) (!decide (c.sg = 0)) (setV c.sg) with a | ⟨a, b⟩ | ⟨a, b, d⟩ | ⟨a, b, d, f⟩ | ⟨a, b, d, f, g⟩ | ⟨a, b, d, f, g⟩
  case' inr.inr.inr.inl => obtain ⟨f1, f2⟩ := nat_is0 f
  case' inr.inr.inr.inr.inl => obtain ⟨f1, f2⟩ := nat_no0 f
  case' inr.inr.inr.inr.inr => obtain ⟨f1, f2⟩ := nat_no0 f
  all_goals
    have HE : Hid (sgV c = _) := Lib.hid e
    clear e
    go_enter Tryz.func108, Tryz.ntmps108
    go_wp2_with (first
      | (go_at_call 109; first
          | ((with_reducible refine (within_is _ _ _ _ _ a).mono ?_); rintro e w1 ⟨rfl, rfl⟩)
          | ((with_reducible refine (within_is _ _ _ _ _ b).mono ?_); rintro e w1 ⟨rfl, rfl⟩)
          | ((with_reducible refine (within_is _ _ _ _ _ d).mono ?_); rintro e w1 ⟨rfl, rfl⟩))
      | (go_at_call 110; (with_reducible refine (replicas_is _ _ _ hu g).mono ?_); rintro e w1 ⟨rfl, rfl⟩))
    go_ret
    refine ⟨?_, hb0⟩
    rw [HE.out]
    simp [*]
/-- Its height, its author and its coin are zero? -/
def restB (c : Crt) : Bool := decide (c.height = 0) && decide (c.author = 0) && decide (c.co = 0)
set_option maxHeartbeats 1000000 in
set_option maxRecDepth 100000 in
theorem may_any (c : Crt) (w : World) (h : c.wf) : Calls Tryz.prog 81 #[.agg (crtC c)] w (gives (.bool (mayV c)) w) := by
  have hu : inU c.co := h.2.2.2.2.2.2.2
  have hb0 : Below w.heap.size w (w.alloc (.cells (crtC c) 24)) := below_box _ c
  have k0 := box_new w 24 c
  have B0 := Lib.hid (fun w1 => @box_at w w1 24 c)
  have hq := fun W => eqlC h zeroC_wf W
  have hs := fun W => signed_any c W h
  obtain ⟨c0, c1, c2, c3, c4, c5, c6, c7⟩ := box_of (box_new w 24 c)
  have HH := Lib.hid (And.intro hq hs)
  clear hq hs h
  by_cases hk0 : c.kind = 0
  · have e : mayV c = decide (c = zeroC) := by unfold mayV; rw [if_pos hk0]
    rw [hk0] at c0
    have HE := Lib.hid e
    clear e hk0
    go_enter Tryz.func81, Tryz.ntmps81
    go_wp2_with (first
      | (refine wpList_row_at rfl _ _ rfl w.heap.size rfl _ _ _ _ k0 Tryz.underlying24 rfl crtInfo ?_)
      | (refine wpList_build rfl _ _ rfl #[] rfl (build_zero _) ?_)
      | (refine wpList_binop rfl _ _ _ _ _ rfl (crtC c) (crtC zeroC) rfl rfl (by kernel_rfl) (HH.out.1 _) ?_))
    go_ret
    exact ⟨congrArg (fun b => Ending.returned (.bool b)) HE.out.symm, hb0⟩
  have hk0' : (c.kind == 0) = false := by simpa using hk0
  by_cases hk1 : c.kind = 1
  · have e : mayV c = (sgV c && decide (c.height = 0) && decide (c.author = 0) && decide (c.co = 0)) := by unfold mayV; rw [if_neg hk0, if_pos hk1]
    rw [hk1] at c0
    have hs := HH.out.2
    rcases four (sgV c) (decide (c.height = 0)) (decide (c.author = 0)) (decide (c.co = 0)) with a | ⟨a, b⟩ | ⟨a, b, d⟩ | ⟨a, b, d, f⟩ | ⟨a, b, d, f⟩
    case' inr.inl => have b' : (c.height == 0) = false := by simpa using b
    case' inr.inr.inl => have b' : c.height = 0 := by simpa using b
    case' inr.inr.inl => have d' : (c.author == 0) = false := by simpa using d
    case' inr.inr.inr.inl => have b' : c.height = 0 := by simpa using b
    case' inr.inr.inr.inl => have d' : c.author = 0 := by simpa using d
    case' inr.inr.inr.inl => have f' : ((c.co : Int) == 0) = false := by simpa using f
    case' inr.inr.inr.inr => have b' : c.height = 0 := by simpa using b
    case' inr.inr.inr.inr => have d' : c.author = 0 := by simpa using d
    case' inr.inr.inr.inr => have f' : ((c.co : Int) == 0) = true := by simpa using f
    all_goals
      have HE : Hid (mayV c = _) := Lib.hid e
      rw [a] at hs
      have HS := Lib.hid hs
      clear e hk0 hk0' hk1 hs HH
      go_enter Tryz.func81, Tryz.ntmps81
      go_wp2_with (first
        | (refine wpList_row_at rfl _ _ rfl w.heap.size rfl _ _ _ _ k0 Tryz.underlying24 rfl crtInfo ?_)
        | (go_at_call 108; refine (HS.out _).mono ?_; unfold gives; rintro e w1 ⟨rfl, hb1⟩; obtain ⟨d0, d1, d2, d3, d4, d5, d6, d7⟩ := B0.out _ hb1; replace hb1 := nxt hb0 hb1))
      go_ret
      refine ⟨?_, hb1⟩
      rw [HE.out]
      simp [*]
  have hk1' : (c.kind == 1) = false := by simpa using hk1
  by_cases hk2 : c.kind = 2
  · have e : mayV c = (sgV c && okW c.height 1 3 && okW c.author 0 9 && setV c.co) := by unfold mayV; rw [if_neg hk0, if_neg hk1, if_pos hk2]
    rw [hk2] at c0
    have hs := HH.out.2
    rcases four (sgV c) (okW c.height 1 3) (okW c.author 0 9) (setV c.co) with a | ⟨a, b⟩ | ⟨a, b, d⟩ | ⟨a, b, d, f⟩ | ⟨a, b, d, f⟩
    all_goals
      have HE : Hid (mayV c = _) := Lib.hid e
      rw [a] at hs
      have HS := Lib.hid hs
      clear e hk0 hk0' hk1 hk1' hk2 hs HH
      go_enter Tryz.func81, Tryz.ntmps81
      go_wp2_with (first
        | (refine wpList_row_at rfl _ _ rfl w.heap.size rfl _ _ _ _ k0 Tryz.underlying24 rfl crtInfo ?_)
        | (go_at_call 108; refine (HS.out _).mono ?_; unfold gives; rintro e w1 ⟨rfl, hb1⟩; obtain ⟨d0, d1, d2, d3, d4, d5, d6, d7⟩ := B0.out _ hb1; replace hb1 := nxt hb0 hb1)
        | (go_at_call 109; first
            | ((with_reducible refine (within_is _ _ _ _ _ b).mono ?_); rintro e w1 ⟨rfl, rfl⟩)
            | ((with_reducible refine (within_is _ _ _ _ _ d).mono ?_); rintro e w1 ⟨rfl, rfl⟩))
        | (go_at_call 110; (with_reducible refine (replicas_is _ _ _ hu f).mono ?_); rintro e w1 ⟨rfl, rfl⟩))
      go_ret
      refine ⟨?_, hb1⟩
      rw [HE.out]
      simp [*]
  have hk2' : (c.kind == 2) = false := by simpa using hk2
  have e : mayV c = false := by unfold mayV; rw [if_neg hk0, if_neg hk1, if_neg hk2]
  rw [e]
  clear e hk0 hk1 hk2
  go_enter Tryz.func81, Tryz.ntmps81
  go_wp2
  go_ret
  exact ⟨rfl, hb0⟩
theorem check_any (c : Crt) (w : World) (h : c.wf) : Calls Tryz.prog 44 #[.agg (crtC c)] w (gives (.int .i64 (errI (mayV c) 110)) w) := by
  have hb0 : Below w.heap.size w (w.alloc (.cells (crtC c) 24)) := below_box _ c
  have k0 := box_new w 24 c
  have hm := fun W => may_any c W h
  clear h
  rcases Bool.eq_false_or_eq_true (mayV c) with a | a
  all_goals
    rw [a] at hm ⊢
    have HM := Lib.hid hm
    clear hm a
    go_enter Tryz.func44, Tryz.ntmps44
    go_wp2_with (first
      | (refine wpList_row_at rfl _ _ rfl w.heap.size rfl _ _ _ _ k0 Tryz.underlying24 rfl crtInfo ?_)
      | (go_at_call 81; refine (HM.out _).mono ?_; unfold gives; rintro e w1 ⟨rfl, hb1⟩; replace hb1 := nxt hb0 hb1))
    go_ret
    exact ⟨rfl, hb1⟩
theorem check_is (c : Crt) (b : Bool) (w : World) (h : c.wf) (hb : mayV c = b) : Calls Tryz.prog 44 #[.agg (crtC c)] w (gives (.int .i64 (errI b 110)) w) := by
  have := check_any c w h; rw [hb] at this; exact this
/-- Is it endorsed? -/
def endV (c : Crt) : Bool := decide (c.kind = 2) && !decide (c.co = 0)
theorem endorsed_any (c : Crt) (w : World) : Calls Tryz.prog 74 #[.agg (crtC c)] w (gives (.bool (endV c)) w) := by
  have hb0 : Below w.heap.size w (w.alloc (.cells (crtC c) 24)) := below_box _ c
  obtain ⟨c0, c1, c2, c3, c4, c5, c6, c7⟩ := box_of (box_new w 24 c)
  by_cases hk : c.kind = 2
  · have e : endV c = !decide (c.co = 0) := by unfold endV; rw [hk]; rfl
    rw [hk] at c0
    clear hk
    rcases Bool.eq_false_or_eq_true (!decide (c.co = 0)) with a | a
    case' inl => obtain ⟨f1, f2⟩ := nat_no0 a
    case' inr => obtain ⟨f1, f2⟩ := nat_is0 a
    all_goals
      rw [a] at e
      rw [e]
      clear a e
      go_enter Tryz.func74, Tryz.ntmps74
      go_wp2
      go_ret
      refine ⟨?_, hb0⟩
      first | rfl | simp [f1, f2]
  · have e : endV c = false := by unfold endV; rw [decide_eq_false hk]; rfl
    have hk' : (c.kind == 2) = false := by simpa using hk
    rw [e]
    clear e hk
    go_enter Tryz.func74, Tryz.ntmps74
    go_wp2
    go_ret
    exact ⟨rfl, hb0⟩
end Go.Proofs.YtgmejaiifibfoaaGreatDoor.L11

/-
  A certificate's bytes, by the code.
-/
set_option linter.unusedSimpArgs false
set_option linter.unusedVariables false
namespace Go.Proofs.YtgmejaiifibfoaaGreatDoor.L11
open Go.RowKit Go.Lib
open L3 (Reads encN encs intCells)

/-- Its numbers in their order. -/
def numsV (c : Crt) : List Int := if c.kind = 0 then [0] else if c.kind = 1 then [1, c.block, c.view, c.round, c.sg] else [2, c.block, c.view, c.round, c.sg, c.height, c.author, c.co]
def bytesV (c : Crt) : List UInt8 := encs (numsV c)
theorem sg_facts {c : Crt} (h : sgV c = true) : (1 ≤ c.block ∧ c.block ≤ 2147483647) ∧ (1 ≤ c.view ∧ c.view ≤ 1048576) ∧ (1 ≤ c.round ∧ c.round ≤ 1073741824) ∧ c.sg ≠ 0 ∧ c.sg < 1024 := by
  unfold sgV at h
  simp only [Bool.and_eq_true] at h
  obtain ⟨⟨⟨⟨a, b⟩, d⟩, f⟩, g⟩ := h
  exact ⟨okW_le a, okW_le b, okW_le d, by simpa using f, of_decide_eq_true g⟩
theorem may_zero {c : Crt} (h : mayV c = true) (hk : c.kind = 0) : c = zeroC := by
  unfold mayV at h
  rw [if_pos hk] at h
  exact of_decide_eq_true h
theorem may_one {c : Crt} (h : mayV c = true) (hk : c.kind = 1) : sgV c = true ∧ c.height = 0 ∧ c.author = 0 ∧ c.co = 0 := by
  unfold mayV at h
  rw [if_neg (by omega), if_pos hk] at h
  simp only [Bool.and_eq_true, decide_eq_true_eq] at h
  exact ⟨h.1.1.1, h.1.1.2, h.1.2, h.2⟩
theorem may_two {c : Crt} (h : mayV c = true) (h0 : c.kind ≠ 0) (h1 : c.kind ≠ 1) : c.kind = 2 ∧ sgV c = true ∧ (1 ≤ c.height ∧ c.height ≤ 3) ∧ (0 ≤ c.author ∧ c.author ≤ 9) ∧ c.co < 1024 := by
  unfold mayV at h
  rw [if_neg h0, if_neg h1] at h
  by_cases h2 : c.kind = 2
  · rw [if_pos h2] at h
    simp only [Bool.and_eq_true] at h
    exact ⟨h2, h.1.1.1, okW_le h.1.1.2, okW_le h.1.2, of_decide_eq_true h.2⟩
  · rw [if_neg h2] at h; cases h
theorem may_nums {c : Crt} (h : mayV c = true) : (numsV c).all L3.okN = true := by
  by_cases h0 : c.kind = 0
  · unfold numsV; rw [if_pos h0]; rfl
  by_cases h1 : c.kind = 1
  · obtain ⟨hs, _⟩ := may_one h h1
    obtain ⟨a, b, d, _, f⟩ := sg_facts hs
    unfold numsV; rw [if_neg h0, if_pos h1]
    simp only [List.all_cons, List.all_nil, Bool.and_true, Bool.and_eq_true]
    exact ⟨rfl, L3.okN_mk (by omega) (by omega), L3.okN_mk (by omega) (by omega), L3.okN_mk (by omega) (by omega), L3.okN_mk (by omega) (by omega)⟩
  · obtain ⟨_, hs, p, q, r⟩ := may_two h h0 h1
    obtain ⟨a, b, d, _, f⟩ := sg_facts hs
    unfold numsV; rw [if_neg h0, if_neg h1]
    simp only [List.all_cons, List.all_nil, Bool.and_true, Bool.and_eq_true]
    exact ⟨rfl, L3.okN_mk (by omega) (by omega), L3.okN_mk (by omega) (by omega), L3.okN_mk (by omega) (by omega), L3.okN_mk (by omega) (by omega), L3.okN_mk (by omega) (by omega), L3.okN_mk (by omega) (by omega), L3.okN_mk (by omega) (by omega)⟩
theorem nums_len (c : Crt) : (numsV c).length ≤ 8 := by unfold numsV; split <;> (try split) <;> simp
theorem bytes_len {c : Crt} (h : mayV c = true) : (bytesV c).length ≤ 72 := by
  have := L3.encs_le _ (may_nums h)
  have := nums_len c
  unfold bytesV
  omega
theorem wrap_u {n : Nat} (h : inU n) : wrap64 (n : Int) = n := by unfold inU at h; unfold wrap64; omega
/-- Bytes that a call made, and no error. -/
def made (l : List UInt8) (w : World) (e : Ending) (w' : World) : Prop :=
  ∃ A c, e = .returned (.tuple #[.slice A l.length c, .int .i64 0]) ∧ Reads w' w'.heap.size 1 A l.length (byteCells l) ∧ l.length ≤ c ∧ Below w.heap.size w w'
theorem made_of {l : List UInt8} {w : World} {e : Ending} {w' : World} (h : L3.wrote l w e w') : made l w e w' := by
  obtain ⟨v, rfl, ho⟩ := h
  obtain ⟨A, c, rfl, hr, hc⟩ := ho.form
  exact ⟨A, c, rfl, hr, hc, ho.2.1⟩
theorem c_nums (zs : List Int) (n : Nat) (A : Option Addr) (k : Nat) (w : World) (hn : zs.length = n) (h : Reads w w.heap.size 1 A n (intCells zs)) (hl : n ≤ 100) (hok : zs.all L3.okN = true) : Calls Tryz.prog 94 #[.slice A n k] w (made (encs zs) w) := by
  refine (L3.nums_any A n k zs w h (by omega)).mono ?_
  intro e w' h
  rcases h with ⟨_, h⟩ | ⟨h, _⟩
  · exact made_of h
  · rw [hok] at h; cases h
theorem own_below {w w' : World} {base size n : Nat} {e : TypeId} {v : Value} {xs : List Value} (h : w.ownsRow base e size v n xs) (hb : Below w.heap.size w w') : w'.ownsRow base e size v n xs := by
  refine ⟨h.1, ?_⟩
  rcases h.2 with h0 | ⟨g, cap, cur, rfl, hb', hh, h1, h2, h3⟩
  · exact .inl h0
  · exact .inr ⟨g, cap, cur, rfl, hb', (hb.block g (Array.getElem?_eq_some_iff.1 hh).1).trans hh, h1, h2, h3⟩
theorem own_form {w : World} {base : Nat} {e : TypeId} {v : Value} {n : Nat} {xs : List Value} (h : w.ownsRow base e 1 v n xs) : ∃ A c, v = .slice A n c := by
  rcases h.2 with ⟨rfl, h0⟩ | ⟨g, cap, cur, rfl, _⟩
  · exact ⟨none, 0, by rw [h0]⟩
  · exact ⟨_, _, rfl⟩
/-- A row of numbers that was just laid. -/
theorem row_new (w : World) (cs : Array Value) (n : Nat) (hn : n ≤ 100) (hs : cs.size = n) : (w.alloc (.cells cs 2)).ownsRow w.heap.size 2 1 (.slice (some ⟨w.heap.size, 0, none⟩) n n) n cs.toList :=
  World.ownsRow_lit w cs n (Nat.le_refl _) (by unfold maxLen; omega) (by omega)
theorem row_reads (w : World) (cs : Array Value) (n : Nat) (hn : n ≤ 100) (hs : cs.size = n) : Reads (w.alloc (.cells cs 2)) (w.alloc (.cells cs 2)).heap.size 1 (some ⟨w.heap.size, 0, none⟩) n cs.toList :=
  L3.Reads.of_own (row_new w cs n hn hs)
theorem i64Info : (Tryz.prog.info? 2).map (fun i => (i.zero, i.size, i.bytes)) = some (some (.int .i64 0), 1, 8) := by kernel_rfl
theorem below_grown {W w w' : World} {B base n : Nat} {e : TypeId} {v : Value} {xs : List Value} (hb : Below B W w) (h : w.ownsRow base e 1 v n xs) (hg : w.grownBy w' v.ownBlock) (hB : B ≤ base) (hs : B ≤ w.heap.size) : Below B W w' :=
  hb.grown hg hs (fun k hk => by have := (h.lt k hk).1; omega)
set_option maxHeartbeats 1000000 in
set_option maxRecDepth 100000 in
theorem bytes_no (c : Crt) (w : World) (h : c.wf) (hr : mayV c = false) : Calls Tryz.prog 56 #[.agg (crtC c)] w (gives (.tuple #[.slice none 0 0, .int .i64 110]) w) := by
  have hb0 : Below w.heap.size w (w.alloc (.cells (crtC c) 24)) := below_box _ c
  have k0 := box_new w 24 c
  have hc := check_any c (w.alloc (.cells (crtC c) 24)) h
  rw [hr] at hc
  have HC := Lib.hid hc
  clear hc h hr
  go_enter Tryz.func56, Tryz.ntmps56
  go_wp2_with (first
    | (refine wpList_row_at rfl _ _ rfl w.heap.size rfl _ _ _ _ k0 Tryz.underlying24 rfl crtInfo ?_)
    | (go_at_call 44; refine HC.out.mono ?_; unfold gives errI; rintro e w1 ⟨rfl, hb1⟩))
  go_ret2
  exact ⟨rfl, nxt hb0 hb1⟩
set_option maxHeartbeats 4000000 in
set_option maxRecDepth 100000 in
theorem bytes_ok (c : Crt) (w : World) (h : c.wf) (hr : mayV c = true) : Calls Tryz.prog 56 #[.agg (crtC c)] w (made (bytesV c) w) := by
  obtain ⟨i0, hi, hz0, hz1, hz2⟩ := info_parts i64Info
  have hall := may_nums hr
  have hb0 : Below w.heap.size w (w.alloc (.cells (crtC c) 24)) := below_box _ c
  have k0 := box_new w 24 c
  have K0 := Lib.hid (fun w1 (hb : Below (w.alloc (.cells (crtC c) 24)).heap.size (w.alloc (.cells (crtC c) 24)) w1) => k0.below hb (by simp))
  have hc := check_any c (w.alloc (.cells (crtC c) 24)) h
  rw [hr] at hc
  have HC := Lib.hid hc
  have hw6 := wrap_u h.2.2.2.2.2.2.1
  have hw7 := wrap_u h.2.2.2.2.2.2.2
  clear hc h
  by_cases h0 : c.kind = 0
  · obtain rfl := may_zero hr h0
    have e : bytesV zeroC = encs [0] := rfl
    rw [e]
    clear hr h0 hall e hw6 hw7
    go_enter Tryz.func56, Tryz.ntmps56
    go_upto_region 4 with (first
      | (refine wpList_row_at rfl _ _ rfl w.heap.size rfl _ _ _ _ k0 Tryz.underlying24 rfl crtInfo ?_)
      | (go_at_call 44; refine HC.out.mono ?_; unfold gives errI; rintro e w1 ⟨rfl, hb1⟩; have k1 := K0.out _ hb1; have d0 : w1.cell? ⟨w.heap.size, 0, none⟩ = some (.int .i64 0) := k1.cell 0))
    have hbA := nxt hb0 hb1
    clear hb0 hb1 HC K0 k0
    go_upto_region 5 with fail
    refine name_world (fun w2 hw2 => ?_)
    have r2 : Reads w2 w2.heap.size 1 (some ⟨w1.heap.size, 0, none⟩) 1 (intCells [0]) := by rw [hw2]; exact row_reads w1 #[.int .i64 0] 1 (by omega) rfl
    have hb2 : Below w1.heap.size w1 w2 := by rw [hw2]; exact (Below.refl _ _).alloc (Nat.le_refl _) _
    clear hw2 d0
    have d0 : w2.cell? ⟨w.heap.size, 0, none⟩ = some (.int .i64 0) := (k1.below hb2 k1.lt).cell 0
    go_wp2_with (first
      | (go_at_call 94; refine (c_nums [0] 1 _ _ _ rfl r2 (by omega) rfl).mono ?_; unfold made; rintro e w3 ⟨A2, c2, rfl, r3, q3, hb3⟩))
    go_ret2
    exact ⟨A2, c2, rfl, r3, q3, nxt hbA (nxt hb2 hb3)⟩
  by_cases h1 : c.kind = 1
  · have e : bytesV c = encs [1, c.block, c.view, c.round, c.sg] := by unfold bytesV numsV; rw [if_neg h0, if_pos h1]
    rw [e]
    have hN : Hid ([1, c.block, c.view, c.round, (c.sg : Int)].all L3.okN = true) := Lib.hid (by unfold numsV at hall; rw [if_neg h0, if_pos h1] at hall; exact hall)
    have B0 : Hid (∀ w1, L3.Blk w1 w.heap.size 24 (crtC c) → w1.cell? ⟨w.heap.size, 0, none⟩ = some (.int .i64 1)) := Lib.hid (fun w1 k => by rw [← h1]; exact k.cell 0)
    clear hr h0 h1 hall e hw7
    go_enter Tryz.func56, Tryz.ntmps56
    go_upto_region 4 with (first
      | (refine wpList_row_at rfl _ _ rfl w.heap.size rfl _ _ _ _ k0 Tryz.underlying24 rfl crtInfo ?_)
      | (go_at_call 44; refine HC.out.mono ?_; unfold gives errI; rintro e w1 ⟨rfl, hb1⟩; have k1 := K0.out _ hb1; have d0 := B0.out _ k1))
    have hbA := nxt hb0 hb1
    clear hb0 hb1 HC K0 k0
    go_upto_region 5 with fail
    refine name_world (fun w2 hw2 => ?_)
    have own2 : w2.ownsRow w1.heap.size 2 1 (.slice (some ⟨w1.heap.size, 0, none⟩) 1 1) 1 [.int .i64 1] := by rw [hw2]; exact row_new w1 #[.int .i64 1] 1 (by omega) rfl
    have hb2 : Below w1.heap.size w1 w2 := by rw [hw2]; exact (Below.refl _ _).alloc (Nat.le_refl _) _
    clear hw2 d0
    have k2 := k1.below hb2 k1.lt
    obtain ⟨-, d1, d2, d3, d4, d5, d6, d7⟩ := box_of k2
    have d0 := B0.out _ k2
    have hr2 := row_reads w2 #[.int .i64 c.block, .int .i64 c.view, .int .i64 c.round, .int .i64 c.sg] 4 (by omega) rfl
    have own3 := own_below own2 ((Below.refl _ _).alloc (Nat.le_refl _) (.cells #[.int .i64 c.block, .int .i64 c.view, .int .i64 c.round, .int .i64 c.sg] 2))
    have hs2 := hb2.size
    go_upto_region 7 with (first
      | (at_builtin; refine L3.wpList_append_any _ rfl _ _ _ rfl w1.heap.size 2 i0 (.int .i64 0) 1 8 Tryz.underlying122 hi hz0 hz1 hz2 rfl (by decide) (.slice (some ⟨w1.heap.size, 0, none⟩) 1 1) 1 [.int .i64 1] rfl own3 _ (some ⟨w2.heap.size, 0, none⟩) 4 4 [.int .i64 c.block, .int .i64 c.view, .int .i64 c.round, .int .i64 c.sg] rfl hr2 (by intro u hu; simp at hu; rcases hu with rfl | rfl | rfl | rfl <;> rfl) (by unfold maxLen; omega) (by omega) (by simp; omega) ?_; intro v4 w4 ho4 hg4 _))
    have hb4 : Below w1.heap.size w1 w4 := below_grown (hb2.alloc hb2.size _) own3 hg4 (Nat.le_refl _) (by simp; omega)
    obtain ⟨A4, c4, rfl⟩ := own_form ho4
    have r4 : Reads w4 w4.heap.size 1 A4 5 (intCells [1, c.block, c.view, c.round, c.sg]) := L3.Reads.of_own ho4
    have e0 := B0.out _ (k1.below hb4 k1.lt)
    clear hg4 ho4 own3 hr2 own2 hs2 d0 d1 d2 d3 d4 d5 d6 d7 k2 hi hz0 hz1 hz2
    go_wp2_with (first
      | (go_at_call 94; refine (c_nums _ 5 _ _ _ rfl r4 (by omega) hN.out).mono ?_; unfold made; rintro e w5 ⟨A2, c2, rfl, r2, q2, hb5⟩))
    go_ret2
    exact ⟨A2, c2, rfl, r2, q2, nxt hbA (nxt hb4 hb5)⟩
  have hk2 := (may_two hr h0 h1).1
  have e : bytesV c = encs [2, c.block, c.view, c.round, c.sg, c.height, c.author, c.co] := by unfold bytesV numsV; rw [if_neg h0, if_neg h1]
  rw [e]
  have hN : Hid ([2, c.block, c.view, c.round, (c.sg : Int), c.height, c.author, (c.co : Int)].all L3.okN = true) := Lib.hid (by unfold numsV at hall; rw [if_neg h0, if_neg h1] at hall; exact hall)
  have B0 : Hid (∀ w1, L3.Blk w1 w.heap.size 24 (crtC c) → w1.cell? ⟨w.heap.size, 0, none⟩ = some (.int .i64 2)) := Lib.hid (fun w1 k => by rw [← hk2]; exact k.cell 0)
  clear hr h0 h1 hk2 hall e
  go_enter Tryz.func56, Tryz.ntmps56
  go_upto_region 4 with (first
    | (refine wpList_row_at rfl _ _ rfl w.heap.size rfl _ _ _ _ k0 Tryz.underlying24 rfl crtInfo ?_)
    | (go_at_call 44; refine HC.out.mono ?_; unfold gives errI; rintro e w1 ⟨rfl, hb1⟩; have k1 := K0.out _ hb1; have d0 := B0.out _ k1))
  have hbA := nxt hb0 hb1
  clear hb0 hb1 HC K0 k0
  go_upto_region 5 with fail
  refine name_world (fun w2 hw2 => ?_)
  have own2 : w2.ownsRow w1.heap.size 2 1 (.slice (some ⟨w1.heap.size, 0, none⟩) 1 1) 1 [.int .i64 2] := by rw [hw2]; exact row_new w1 #[.int .i64 2] 1 (by omega) rfl
  have hb2 : Below w1.heap.size w1 w2 := by rw [hw2]; exact (Below.refl _ _).alloc (Nat.le_refl _) _
  clear hw2 d0
  have k2 := k1.below hb2 k1.lt
  obtain ⟨-, d1, d2, d3, d4, d5, d6, d7⟩ := box_of k2
  have d0 := B0.out _ k2
  have hr2 := row_reads w2 #[.int .i64 c.block, .int .i64 c.view, .int .i64 c.round, .int .i64 c.sg] 4 (by omega) rfl
  have own3 := own_below own2 ((Below.refl _ _).alloc (Nat.le_refl _) (.cells #[.int .i64 c.block, .int .i64 c.view, .int .i64 c.round, .int .i64 c.sg] 2))
  have hs2 := hb2.size
  go_upto_region 7 with (first
    | (at_builtin; refine L3.wpList_append_any _ rfl _ _ _ rfl w1.heap.size 2 i0 (.int .i64 0) 1 8 Tryz.underlying122 hi hz0 hz1 hz2 rfl (by decide) (.slice (some ⟨w1.heap.size, 0, none⟩) 1 1) 1 [.int .i64 2] rfl own3 _ (some ⟨w2.heap.size, 0, none⟩) 4 4 [.int .i64 c.block, .int .i64 c.view, .int .i64 c.round, .int .i64 c.sg] rfl hr2 (by intro u hu; simp at hu; rcases hu with rfl | rfl | rfl | rfl <;> rfl) (by unfold maxLen; omega) (by omega) (by simp; omega) ?_; intro v4 w4 ho4 hg4 _))
  have hb4 : Below w1.heap.size w1 w4 := below_grown (hb2.alloc hb2.size _) own3 hg4 (Nat.le_refl _) (by simp; omega)
  obtain ⟨A4, c4, rfl⟩ := own_form ho4
  have k4 := k1.below hb4 k1.lt
  clear d0 d1 d2 d3 d4 d5 d6 d7 hr2 own3 own2 hs2 k2 hg4
  obtain ⟨-, d1, d2, d3, d4, d5, d6, d7⟩ := box_of k4
  have d0 := B0.out _ k4
  have hs4 := hb4.size
  have hr5 := row_reads w4 #[.int .i64 c.height, .int .i64 c.author, .int .i64 c.co] 3 (by omega) rfl
  have own5 := own_below ho4 ((Below.refl _ _).alloc (Nat.le_refl _) (.cells #[.int .i64 c.height, .int .i64 c.author, .int .i64 c.co] 2))
  go_upto_region 9 with (first
    | (at_builtin; refine L3.wpList_append_any _ rfl _ _ _ rfl w1.heap.size 2 i0 (.int .i64 0) 1 8 Tryz.underlying122 hi hz0 hz1 hz2 rfl (by decide) (.slice A4 5 c4) 5 ([.int .i64 2] ++ [.int .i64 c.block, .int .i64 c.view, .int .i64 c.round, .int .i64 c.sg]) rfl own5 _ (some ⟨w4.heap.size, 0, none⟩) 3 3 [.int .i64 c.height, .int .i64 c.author, .int .i64 c.co] rfl hr5 (by intro u hu; simp at hu; rcases hu with rfl | rfl | rfl <;> rfl) (by unfold maxLen; omega) (by omega) (by simp; omega) ?_; intro v6 w6 ho6 hg6 _))
  have hb6 : Below w1.heap.size w1 w6 := below_grown (hb4.alloc hb4.size _) own5 hg6 (Nat.le_refl _) (by simp; omega)
  obtain ⟨A6, c6, rfl⟩ := own_form ho6
  have r6 : Reads w6 w6.heap.size 1 A6 8 (intCells [2, c.block, c.view, c.round, c.sg, c.height, c.author, c.co]) := L3.Reads.of_own ho6
  clear hg6 ho6 own5 hr5 ho4 hs4 d0 d1 d2 d3 d4 d5 d6 d7 k4 hi hz0 hz1 hz2
  go_wp2_with (first
    | (go_at_call 94; refine (c_nums _ 8 _ _ _ rfl r6 (by omega) hN.out).mono ?_; unfold made; rintro e w7 ⟨A2, c2, rfl, r2, q2, hb7⟩))
  go_ret2
  exact ⟨A2, c2, rfl, r2, q2, nxt hbA (nxt hb6 hb7)⟩
end Go.Proofs.YtgmejaiifibfoaaGreatDoor.L11

/-
  The next certificate of a reader, right or not, by the code: whatever is left of its bytes.
-/
set_option linter.unusedSimpArgs false
set_option linter.unusedVariables false
namespace Go.Proofs.YtgmejaiifibfoaaGreatDoor.L11
open Go.RowKit Go.Lib
open L3 (Rdr leaves numS failS rdN)

theorem rdr_alloc {w : World} {g : Nat} {p : List UInt8 × Int} (h : Rdr w g p) (o : Obj) : Rdr (w.alloc o) g p := by
  have hl := h.lt
  obtain ⟨A, c, hb, hr, h3⟩ := h
  exact ⟨A, c, hb.alloc o, hr.alloc (by omega) o, h3⟩
theorem rdr_set {w : World} {g G i : Nat} {p : List UInt8 × Int} (h : Rdr w g p) (hG : g < G) (u : Value) : Rdr (w.setCell ⟨G, i, none⟩ u) g p := by
  obtain ⟨A, c, hb, hr, h3⟩ := h
  exact ⟨A, c, hb.far (by show g ≠ G; omega) u, hr.setCell (by show g ≤ G; omega) u, h3⟩
theorem rdr_below {w w' : World} {g B : Nat} {p : List UInt8 × Int} (h : Rdr w g p) (hb : Below B w w') (hg : g < B) : Rdr w' g p := by
  obtain ⟨A, c, h1, h2, h3⟩ := h
  exact ⟨A, c, h1.below hb hg, h2.below (hb.mono (by omega)), h3⟩
theorem rdr_row {w : World} {g G : Nat} {p : List UInt8 × Int} (h : Rdr w g p) (hG : g < G) (cs : Array Value) : Rdr (w.setRow G cs) g p := by
  refine rdr_below h (B := g + 1) ⟨rfl, rfl, rfl, by simp [World.setRow], fun i hi => ?_⟩ (Nat.lt_succ_self _)
  have : ¬ G = i := by omega
  simp [World.setRow, Array.getElem?_modify, this]
theorem grown_new {w W : World} {g : Nat} (h : w.grownBy W (some g)) {G i : Nat} (hG : w.heap.size ≤ G) (u : Value) : w.grownBy (W.setCell ⟨G, i, none⟩ u) (some g) :=
  ⟨h.os, h.tape, h.output, by simpa [World.setCell] using h.size, fun k hk hne => (Below.heap_setCell W ⟨G, i, none⟩ u k (by show k ≠ G; omega)).trans (h.block k hk hne)⟩
theorem grown_row {w W : World} {g : Nat} (h : w.grownBy W (some g)) {G : Nat} (hG : w.heap.size ≤ G) (cs : Array Value) : w.grownBy (W.setRow G cs) (some g) := by
  refine ⟨h.os, h.tape, h.output, by simpa [World.setRow] using h.size, fun k hk hne => ?_⟩
  have : ¬ G = k := by omega
  rw [← h.block k hk hne]
  simp [World.setRow, Array.getElem?_modify, this]
/-- The number that is read. -/
def numV (p : List UInt8 × Int) : Int := ((rdN 0 0 p.1).1 : Int)
theorem num_at (p : List UInt8 × Int) : 0 ≤ numV p ∧ numV p ≤ 4611686018427387904 := by
  unfold numV
  obtain ⟨k, s, e, hq⟩ : ∃ k s e, rdN 0 0 p.1 = (k, s, e) := ⟨_, _, _, rfl⟩
  rw [hq]
  by_cases he : e = 0
  · subst he
    have := (L3.rd_back0 hq).2.2.2
    constructor
    · exact Int.natCast_nonneg _
    · show (k : Int) ≤ _; omega
  · have := ((L3.rd_err _ _ _ _ _ _ hq).2 he).1
    subst this
    constructor
    · exact Int.natCast_nonneg _
    · show ((0 : Nat) : Int) ≤ _; omega
/-- A number, cut where no certificate has it. -/
def fitV (n : Int) : Int := if 2147483647 < n then -1 else n
def fitU (n : Int) : Nat := if 2147483647 < n then 4294967295 else n.toNat
theorem fit_u (n : Int) (h : 0 ≤ n) : fitV n % 4294967296 = (fitU n : Int) := by
  unfold fitV fitU
  split
  · decide
  · omega
theorem fitV_in (n : Int) (h : 0 ≤ n) : inI (fitV n) := by unfold fitV inI; split <;> omega
theorem fitU_in (n : Int) (h : 0 ≤ n) : inU (fitU n) := by unfold fitU inU; split <;> omega
theorem fit_any (n : Int) (w : World) : Calls Tryz.prog 122 #[.int .i64 n] w fun e w' => e = .returned (.int .i64 (fitV n)) ∧ w = w' := by
  by_cases h : 2147483647 < n
  · have e : fitV n = -1 := if_pos h
    rw [e]
    clear e
    go_enter Tryz.func122, Tryz.ntmps122
    go_wp2
    go_ret
    exact ⟨rfl, rfl⟩
  · have e : fitV n = n := if_neg h
    rw [e]
    clear e
    go_enter Tryz.func122, Tryz.ntmps122
    go_wp2
    go_ret
    exact ⟨rfl, rfl⟩
/-- A reader behind so many numbers. -/
def nS : Nat → List UInt8 × Int → List UInt8 × Int
  | 0, p => p
  | k + 1, p => numS (nS k p)
/-- What is read, and the reader behind it. -/
def readC (p : List UInt8 × Int) : Crt × (List UInt8 × Int) :=
  if fitV (numV p) = 1 then (⟨1, fitV (numV (nS 1 p)), fitV (numV (nS 2 p)), fitV (numV (nS 3 p)), 0, 0, fitU (numV (nS 4 p)), 0⟩, nS 5 p)
  else if fitV (numV p) = 2 then (⟨2, fitV (numV (nS 1 p)), fitV (numV (nS 2 p)), fitV (numV (nS 3 p)), fitV (numV (nS 5 p)), fitV (numV (nS 6 p)), fitU (numV (nS 4 p)), fitU (numV (nS 7 p))⟩, nS 8 p)
  else (⟨fitV (numV p), 0, 0, 0, 0, 0, 0, 0⟩, nS 1 p)
theorem wf_mk {k b v r h a : Int} {s o : Nat} (h0 : inI k) (h1 : inI b) (h2 : inI v) (h3 : inI r) (h4 : inI h) (h5 : inI a) (h6 : inU s) (h7 : inU o) : Crt.wf ⟨k, b, v, r, h, a, s, o⟩ := ⟨h0, h1, h2, h3, h4, h5, h6, h7⟩
theorem readC_wf (p : List UInt8 × Int) : (readC p).1.wf := by
  have f := fun k => fitV_in (numV (nS k p)) (num_at _).1
  have u := fun k => fitU_in (numV (nS k p)) (num_at _).1
  have f0 : inI (fitV (numV p)) := fitV_in _ (num_at p).1
  have i0 : inI 0 := by unfold inI; omega
  have i1 : inI 1 := by unfold inI; omega
  have i2 : inI 2 := by unfold inI; omega
  have u0 : inU 0 := by unfold inU; omega
  have f1 := f 1
  have f2 := f 2
  have f3 := f 3
  have f5 := f 5
  have f6 := f 6
  have u4 := u 4
  have u7 := u 7
  clear f u
  unfold readC
  generalize fitV (numV p) = z0 at *
  generalize fitV (numV (nS 1 p)) = z1 at *
  generalize fitV (numV (nS 2 p)) = z2 at *
  generalize fitV (numV (nS 3 p)) = z3 at *
  generalize fitV (numV (nS 5 p)) = z5 at *
  generalize fitV (numV (nS 6 p)) = z6 at *
  generalize fitU (numV (nS 4 p)) = z4 at *
  generalize fitU (numV (nS 7 p)) = z7 at *
  generalize nS 5 p = s5
  generalize nS 8 p = s8
  generalize nS 1 p = s1
  by_cases h1 : z0 = 1
  · rw [if_pos h1]; exact wf_mk i1 f1 f2 f3 i0 i0 u4 u0
  · rw [if_neg h1]
    by_cases h2 : z0 = 2
    · rw [if_pos h2]; exact wf_mk i2 f1 f2 f3 f5 f6 u4 u7
    · rw [if_neg h2]; exact wf_mk f0 i0 i0 i0 i0 i0 u0 u0
theorem build_kd (k : Int) (w : World) : (Instr.build 24 #[(0, .int .i64 k)]).run Tryz.prog w = .ok (.agg (crtC ⟨k, 0, 0, 0, 0, 0, 0, 0⟩)) w := run_build w _ _ _ (by kernel_rfl)
/-- What holds of the world while a certificate is read. -/
def TakeAt (w : World) (g G : Nat) (t : Crt) (q : List UInt8 × Int) (W : World) : Prop :=
  Rdr W g q ∧ L3.Blk W w.heap.size 24 (crtC zeroC) ∧ L3.Blk W G 24 (crtC t) ∧ w.grownBy W (some g) ∧ g < w.heap.size ∧ w.heap.size < G
section
variable {w W W' : World} {g G : Nat} {t : Crt} {q q' : List UInt8 × Int}
theorem TakeAt.rdr (h : TakeAt w g G t q W) : Rdr W g q := h.1
theorem TakeAt.blkR (h : TakeAt w g G t q W) : L3.Blk W w.heap.size 24 (crtC zeroC) := h.2.1
theorem TakeAt.blkG (h : TakeAt w g G t q W) : L3.Blk W G 24 (crtC t) := h.2.2.1
theorem TakeAt.grown (h : TakeAt w g G t q W) : w.grownBy W (some g) := h.2.2.2.1
theorem TakeAt.lt (h : TakeAt w g G t q W) : g < w.heap.size := h.2.2.2.2.1
theorem TakeAt.next (h : TakeAt w g G t q W) (hl : leaves g q' W W') : TakeAt w g G t q' W' := by
  have hg := h.2.2.2.2
  exact ⟨hl.1, h.2.1.grown hl.2 (fun e => by injection e with e; omega), h.2.2.1.grown hl.2 (fun e => by injection e with e; omega), L3.grown_trans h.2.2.2.1 hl.2, hg⟩
theorem TakeAt.below (h : TakeAt w g G t q W) (hb : Below W.heap.size W W') : TakeAt w g G t q W' := by
  have hgr := h.2.2.2.1
  exact ⟨rdr_below h.1 hb h.1.lt, h.2.1.below hb h.2.1.lt, h.2.2.1.below hb h.2.2.1.lt, ⟨hb.os.trans hgr.os, hb.tape.trans hgr.tape, hb.output.trans hgr.output, Nat.le_trans hgr.size hb.size, fun k hk hne => (hb.block k (Nat.lt_of_lt_of_le hk hgr.size)).trans (hgr.block k hk hne)⟩, h.2.2.2.2⟩
theorem TakeAt.set_ (h : TakeAt w g G t q W) (i : Nat) (u : Value) (t' : Crt) (he : (crtC t).setIfInBounds i u = crtC t') : TakeAt w g G t' q (W.setCell ⟨G, i, none⟩ u) := by
  have hg := h.2.2.2.2
  refine ⟨rdr_set h.1 (by omega) u, h.2.1.far (by show w.heap.size ≠ G; omega) u, ?_, grown_new h.2.2.2.1 (by omega) u, hg⟩
  rw [← he]
  exact h.2.2.1.set_ i u
theorem TakeAt.mk {w2 : World} (h : Rdr w g q') (hl : leaves g q (w.alloc (.cells (crtC zeroC) 24)) w2) (t : Crt) : TakeAt w g w2.heap.size t q (w2.alloc (.cells (crtC t) 24)) := by
  have hg := h.lt
  have hs := hl.2.size
  simp only [World.alloc, Array.size_push] at hs
  refine ⟨rdr_alloc hl.1 _, ((box_new w _ zeroC).grown hl.2 (fun e => by injection e with e; omega)).alloc _, box_new _ _ _, L3.grown_trans (L3.grown_trans (World.grownBy_alloc w _ _) hl.2) (World.grownBy_alloc _ _ _), hg, by omega⟩
end
set_option maxHeartbeats 4000000 in
set_option maxRecDepth 100000 in
theorem read_any (g : Nat) (p : List UInt8 × Int) (w : World) (h : Rdr w g p) :
    Calls Tryz.prog 100 #[.pointer (some ⟨g, 0, none⟩)] w fun e w' => e = .returned (.agg (crtC (readC p).1)) ∧ leaves g (readC p).2 w w' := by
  have hR := Lib.hid (rdr_alloc h (.cells (crtC zeroC) 24))
  have hM := Lib.hid (fun w2 (hl : leaves g (nS 1 p) (w.alloc (.cells (crtC zeroC) 24)) w2) (t : Crt) => TakeAt.mk h hl t)
  obtain ⟨N, hN⟩ : ∃ N : Nat → Int, N = fun k => numV (nS k p) := ⟨_, rfl⟩
  obtain ⟨V, hV⟩ : ∃ V : Nat → Int, V = fun k => fitV (N k) := ⟨_, rfl⟩
  obtain ⟨U, hU⟩ : ∃ U : Nat → Nat, U = fun k => fitU (N k) := ⟨_, rfl⟩
  have hX : readC p = if V 0 = 1 then (⟨1, V 1, V 2, V 3, 0, 0, U 4, 0⟩, nS 5 p) else if V 0 = 2 then (⟨2, V 1, V 2, V 3, V 5, V 6, U 4, U 7⟩, nS 8 p) else (⟨V 0, 0, 0, 0, 0, 0, 0, 0⟩, nS 1 p) := by rw [hV, hU, hN]; rfl
  have HN : Hid (∀ k W, Rdr W g (nS k p) → Calls Tryz.prog 39 #[.pointer (some ⟨g, 0, none⟩)] W fun e w' => e = .returned (.int .i64 (N k)) ∧ leaves g (nS (k + 1) p) W w') := Lib.hid (fun k W hW => by rw [hN]; exact L3.rnum_any g (nS k p) W hW)
  have HF : Hid (∀ k W, Calls Tryz.prog 122 #[.int .i64 (N k)] W fun e w' => e = .returned (.int .i64 (V k)) ∧ W = w') := Lib.hid (fun k W => by rw [hV]; exact fit_any (N k) W)
  have hu : ∀ k, V k % 4294967296 = (U k : Int) := fun k => by rw [hV, hU]; exact fit_u (N k) (by rw [hN]; exact (num_at _).1)
  have hu4 := hu 4
  have hu7 := hu 7
  clear hN hV hU hu h
  rw [hX]
  clear hX
  by_cases hk : V 0 = 1
  · rw [if_pos hk]
    go_enter Tryz.func100, Tryz.ntmps100
    go_upto_region 2 with (first
      | (go_at_call 39; refine (HN.out 0 _ hR.out).mono ?_; rintro e w1 ⟨rfl, hl1⟩)
      | (go_at_call 122; refine (HF.out 0 _).mono ?_; rintro e w1' ⟨rfl, rfl⟩)
      | (refine wpList_build rfl _ _ rfl #[(0, .int .i64 (1))] rfl (build_kd _ _) ?_)
      | (refine wpList_store_new rfl _ _ _ rfl _ (crtC ⟨1, 0, 0, 0, 0, 0, 0, 0⟩) rfl rfl _ _ crtInfo rfl (crtC_ones _) ?_))
    have hA := hM.out _ hl1 ⟨1, 0, 0, 0, 0, 0, 0, 0⟩
    obtain ⟨G, hG⟩ : ∃ G, G = w1.heap.size := ⟨_, rfl⟩
    rw [← hG] at hA
    rw [← hG]
    refine name_world (fun w2 hw2 => ?_)
    rw [← hw2] at hA
    clear hG hl1 hw2 hM hR
    have d0 : w2.cell? ⟨G, 0, none⟩ = some (.int .i64 1) := hA.blkG.cell 0
    have hA1 := hA
    clear hA hk
    go_upto_region 4 with (first
      | (go_at_call 39; (with_reducible refine (HN.out 1 _ hA1.rdr).mono ?_); rintro e x1 ⟨rfl, hl1⟩; have hA2 := hA1.next hl1)
      | (go_at_call 39; (with_reducible refine (HN.out 2 _ hA2.rdr).mono ?_); rintro e x2 ⟨rfl, hl2⟩; have hA3 := hA2.next hl2)
      | (go_at_call 39; (with_reducible refine (HN.out 3 _ hA3.rdr).mono ?_); rintro e x3 ⟨rfl, hl3⟩; have hA4 := hA3.next hl3)
      | (go_at_call 39; (with_reducible refine (HN.out 4 _ hA4.rdr).mono ?_); rintro e x4 ⟨rfl, hl4⟩; have hA5 := hA4.next hl4; have f1 := hA5.blkG.frozen 1; have f2 := hA5.blkG.frozen 2; have f3 := hA5.blkG.frozen 3; have f6 := hA5.blkG.frozen 6; have b1 : x4.cell? ⟨G, 1, none⟩ = some (.int .i64 0) := hA5.blkG.cell 1; have b2 : x4.cell? ⟨G, 2, none⟩ = some (.int .i64 0) := hA5.blkG.cell 2; have b3 : x4.cell? ⟨G, 3, none⟩ = some (.int .i64 0) := hA5.blkG.cell 3; have b6 : x4.cell? ⟨G, 6, none⟩ = some (.int .u32 0) := hA5.blkG.cell 6)
      | (go_at_call 122; first | ((with_reducible refine (HF.out 1 _).mono ?_); rintro e w1' ⟨rfl, rfl⟩) | ((with_reducible refine (HF.out 2 _).mono ?_); rintro e w1' ⟨rfl, rfl⟩) | ((with_reducible refine (HF.out 3 _).mono ?_); rintro e w1' ⟨rfl, rfl⟩) | ((with_reducible refine (HF.out 4 _).mono ?_); rintro e w1' ⟨rfl, rfl⟩)))
    have hB := (((hA5.set_ 1 (.int .i64 (V 1)) ⟨1, V 1, 0, 0, 0, 0, 0, 0⟩ rfl).set_ 2 (.int .i64 (V 2)) ⟨1, V 1, V 2, 0, 0, 0, 0, 0⟩ rfl).set_ 3 (.int .i64 (V 3)) ⟨1, V 1, V 2, V 3, 0, 0, 0, 0⟩ rfl).set_ 6 (.int .u32 (U 4)) ⟨1, V 1, V 2, V 3, 0, 0, U 4, 0⟩ rfl
    clear d0 hA1 hA2 hA3 hA4 hA5 hl1 hl2 hl3 hl4 f1 f2 f3 f6 b1 b2 b3 b6
    refine name_world (fun w4 hw4 => ?_)
    rw [← hw4] at hB
    clear hw4
    have d0 : w4.cell? ⟨G, 0, none⟩ = some (.int .i64 1) := hB.blkG.cell 0
    go_wp2_with (first
      | (refine wpList_row_at rfl _ _ rfl G rfl _ _ _ _ hB.blkG Tryz.underlying24 rfl crtInfo ?_)
      | (refine wpList_store_row rfl _ _ _ rfl w.heap.size (crtC ⟨1, V 1, V 2, V 3, 0, 0, U 4, 0⟩) rfl rfl _ _ hB.blkR crtInfo rfl (crtC_ones _) ?_))
    (try simp only [Exit.inBlock, Exit.then])
    refine bodyPost_ret (v := .agg (crtC ⟨1, V 1, V 2, V 3, 0, 0, U 4, 0⟩)) (results_row rfl _ _ w.heap.size rfl _ _ _ _ (blk_setRow hB.blkR) Tryz.underlying24 rfl crtInfo) rfl ?_
    exact ⟨rfl, rdr_row hB.rdr hB.lt _, grown_row hB.grown (Nat.le_refl _) _⟩
  rw [if_neg hk]
  have hk1 := hk
  have hk1' : (V 0 == 1) = false := by simpa using hk1
  clear hk
  by_cases hk : V 0 = 2
  · rw [if_pos hk]
    go_enter Tryz.func100, Tryz.ntmps100
    go_upto_region 2 with (first
      | (go_at_call 39; refine (HN.out 0 _ hR.out).mono ?_; rintro e w1 ⟨rfl, hl1⟩)
      | (go_at_call 122; refine (HF.out 0 _).mono ?_; rintro e w1' ⟨rfl, rfl⟩)
      | (refine wpList_build rfl _ _ rfl #[(0, .int .i64 (2))] rfl (build_kd _ _) ?_)
      | (refine wpList_store_new rfl _ _ _ rfl _ (crtC ⟨2, 0, 0, 0, 0, 0, 0, 0⟩) rfl rfl _ _ crtInfo rfl (crtC_ones _) ?_))
    have hA := hM.out _ hl1 ⟨2, 0, 0, 0, 0, 0, 0, 0⟩
    obtain ⟨G, hG⟩ : ∃ G, G = w1.heap.size := ⟨_, rfl⟩
    rw [← hG] at hA
    rw [← hG]
    refine name_world (fun w2 hw2 => ?_)
    rw [← hw2] at hA
    clear hG hl1 hw2 hM hR
    have d0 : w2.cell? ⟨G, 0, none⟩ = some (.int .i64 2) := hA.blkG.cell 0
    have hA1 := hA
    clear hA hk hk1 hk1'
    go_upto_region 4 with (first
      | (go_at_call 39; (with_reducible refine (HN.out 1 _ hA1.rdr).mono ?_); rintro e x1 ⟨rfl, hl1⟩; have hA2 := hA1.next hl1)
      | (go_at_call 39; (with_reducible refine (HN.out 2 _ hA2.rdr).mono ?_); rintro e x2 ⟨rfl, hl2⟩; have hA3 := hA2.next hl2)
      | (go_at_call 39; (with_reducible refine (HN.out 3 _ hA3.rdr).mono ?_); rintro e x3 ⟨rfl, hl3⟩; have hA4 := hA3.next hl3)
      | (go_at_call 39; (with_reducible refine (HN.out 4 _ hA4.rdr).mono ?_); rintro e x4 ⟨rfl, hl4⟩; have hA5 := hA4.next hl4; have f1 := hA5.blkG.frozen 1; have f2 := hA5.blkG.frozen 2; have f3 := hA5.blkG.frozen 3; have f6 := hA5.blkG.frozen 6; have b1 : x4.cell? ⟨G, 1, none⟩ = some (.int .i64 0) := hA5.blkG.cell 1; have b2 : x4.cell? ⟨G, 2, none⟩ = some (.int .i64 0) := hA5.blkG.cell 2; have b3 : x4.cell? ⟨G, 3, none⟩ = some (.int .i64 0) := hA5.blkG.cell 3; have b6 : x4.cell? ⟨G, 6, none⟩ = some (.int .u32 0) := hA5.blkG.cell 6)
      | (go_at_call 122; first | ((with_reducible refine (HF.out 1 _).mono ?_); rintro e w1' ⟨rfl, rfl⟩) | ((with_reducible refine (HF.out 2 _).mono ?_); rintro e w1' ⟨rfl, rfl⟩) | ((with_reducible refine (HF.out 3 _).mono ?_); rintro e w1' ⟨rfl, rfl⟩) | ((with_reducible refine (HF.out 4 _).mono ?_); rintro e w1' ⟨rfl, rfl⟩)))
    have hB := (((hA5.set_ 1 (.int .i64 (V 1)) ⟨2, V 1, 0, 0, 0, 0, 0, 0⟩ rfl).set_ 2 (.int .i64 (V 2)) ⟨2, V 1, V 2, 0, 0, 0, 0, 0⟩ rfl).set_ 3 (.int .i64 (V 3)) ⟨2, V 1, V 2, V 3, 0, 0, 0, 0⟩ rfl).set_ 6 (.int .u32 (U 4)) ⟨2, V 1, V 2, V 3, 0, 0, U 4, 0⟩ rfl
    clear d0 hA1 hA2 hA3 hA4 hA5 hl1 hl2 hl3 hl4 f1 f2 f3 f6 b1 b2 b3 b6
    refine name_world (fun w4 hw4 => ?_)
    rw [← hw4] at hB
    clear hw4
    have d0 : w4.cell? ⟨G, 0, none⟩ = some (.int .i64 2) := hB.blkG.cell 0
    have hB5 := hB
    clear hB
    go_upto_region 6 with (first
      | (go_at_call 39; (with_reducible refine (HN.out 5 _ hB5.rdr).mono ?_); rintro e x5 ⟨rfl, hl5⟩; have hB6 := hB5.next hl5)
      | (go_at_call 39; (with_reducible refine (HN.out 6 _ hB6.rdr).mono ?_); rintro e x6 ⟨rfl, hl6⟩; have hB7 := hB6.next hl6)
      | (go_at_call 39; (with_reducible refine (HN.out 7 _ hB7.rdr).mono ?_); rintro e x7 ⟨rfl, hl7⟩; have hB8 := hB7.next hl7; have f4 := hB8.blkG.frozen 4; have f5 := hB8.blkG.frozen 5; have f7 := hB8.blkG.frozen 7; have b4 : x7.cell? ⟨G, 4, none⟩ = some (.int .i64 0) := hB8.blkG.cell 4; have b5 : x7.cell? ⟨G, 5, none⟩ = some (.int .i64 0) := hB8.blkG.cell 5; have b7 : x7.cell? ⟨G, 7, none⟩ = some (.int .u32 0) := hB8.blkG.cell 7)
      | (go_at_call 122; first | ((with_reducible refine (HF.out 5 _).mono ?_); rintro e w1' ⟨rfl, rfl⟩) | ((with_reducible refine (HF.out 6 _).mono ?_); rintro e w1' ⟨rfl, rfl⟩) | ((with_reducible refine (HF.out 7 _).mono ?_); rintro e w1' ⟨rfl, rfl⟩)))
    have hC := ((hB8.set_ 4 (.int .i64 (V 5)) ⟨2, V 1, V 2, V 3, V 5, 0, U 4, 0⟩ rfl).set_ 5 (.int .i64 (V 6)) ⟨2, V 1, V 2, V 3, V 5, V 6, U 4, 0⟩ rfl).set_ 7 (.int .u32 (U 7)) ⟨2, V 1, V 2, V 3, V 5, V 6, U 4, U 7⟩ rfl
    clear d0 hB5 hB6 hB7 hB8 hl5 hl6 hl7 f4 f5 f7 b4 b5 b7
    refine name_world (fun w6 hw6 => ?_)
    rw [← hw6] at hC
    clear hw6
    go_wp2_with (first
      | (refine wpList_row_at rfl _ _ rfl G rfl _ _ _ _ hC.blkG Tryz.underlying24 rfl crtInfo ?_)
      | (refine wpList_store_row rfl _ _ _ rfl w.heap.size (crtC ⟨2, V 1, V 2, V 3, V 5, V 6, U 4, U 7⟩) rfl rfl _ _ hC.blkR crtInfo rfl (crtC_ones _) ?_))
    (try simp only [Exit.inBlock, Exit.then])
    refine bodyPost_ret (v := .agg (crtC ⟨2, V 1, V 2, V 3, V 5, V 6, U 4, U 7⟩)) (results_row rfl _ _ w.heap.size rfl _ _ _ _ (blk_setRow hC.blkR) Tryz.underlying24 rfl crtInfo) rfl ?_
    exact ⟨rfl, rdr_row hC.rdr hC.lt _, grown_row hC.grown (Nat.le_refl _) _⟩
  rw [if_neg hk]
  have hk2' : (V 0 == 2) = false := by simpa using hk
  clear hk hk1
  go_enter Tryz.func100, Tryz.ntmps100
  go_upto_region 2 with (first
    | (go_at_call 39; refine (HN.out 0 _ hR.out).mono ?_; rintro e w1 ⟨rfl, hl1⟩)
    | (go_at_call 122; refine (HF.out 0 _).mono ?_; rintro e w1' ⟨rfl, rfl⟩)
    | (refine wpList_build rfl _ _ rfl #[(0, .int .i64 (V 0))] rfl (build_kd _ _) ?_)
    | (refine wpList_store_new rfl _ _ _ rfl _ (crtC ⟨V 0, 0, 0, 0, 0, 0, 0, 0⟩) rfl rfl _ _ crtInfo rfl (crtC_ones _) ?_))
  have hA := hM.out _ hl1 ⟨V 0, 0, 0, 0, 0, 0, 0, 0⟩
  obtain ⟨G, hG⟩ : ∃ G, G = w1.heap.size := ⟨_, rfl⟩
  rw [← hG] at hA
  rw [← hG]
  refine name_world (fun w2 hw2 => ?_)
  rw [← hw2] at hA
  clear hG hl1 hw2 hM hR
  have d0 : w2.cell? ⟨G, 0, none⟩ = some (.int .i64 (V 0)) := hA.blkG.cell 0
  go_wp2_with (first
    | (refine wpList_row_at rfl _ _ rfl G rfl _ _ _ _ hA.blkG Tryz.underlying24 rfl crtInfo ?_)
    | (refine wpList_store_row rfl _ _ _ rfl w.heap.size (crtC ⟨V 0, 0, 0, 0, 0, 0, 0, 0⟩) rfl rfl _ _ hA.blkR crtInfo rfl (crtC_ones _) ?_))
  (try simp only [Exit.inBlock, Exit.then])
  refine bodyPost_ret (v := .agg (crtC ⟨V 0, 0, 0, 0, 0, 0, 0, 0⟩)) (results_row rfl _ _ w.heap.size rfl _ _ _ _ (blk_setRow hA.blkR) Tryz.underlying24 rfl crtInfo) rfl ?_
  exact ⟨rfl, rdr_row hA.rdr hA.lt _, grown_row hA.grown (Nat.le_refl _) _⟩
end Go.Proofs.YtgmejaiifibfoaaGreatDoor.L11

/-
  A certificate's bytes, by the document's answer.
-/
set_option linter.unusedSimpArgs false
set_option linter.unusedVariables false
namespace Go.Proofs.YtgmejaiifibfoaaGreatDoor.L11
open Go.RowKit Go.Lib
open L3 (encN encs strOf)

theorem c_refN (k : Int) (w : World) (hk : 0 ≤ k ∧ k ≤ 4611686018427387904) : Calls Tryz.prog 29 #[.int .i64 k] w (gives (.string (strOf (encN k.toNat))) w) := by
  obtain ⟨m, rfl⟩ := Int.eq_ofNat_of_zero_le hk.1
  exact (L3.refN_ok m w (by omega)).mono fun _ _ h => h
theorem encN_len {n : Int} (h : 0 ≤ n ∧ n ≤ 4611686018427387904) : (encN n.toNat).length ≤ 9 := L3.encN_le9 (by omega)
theorem len_app (a b : List UInt8) (n m : Nat) (ha : a.length ≤ n) (hb : b.length ≤ m) : (a ++ b).length ≤ n + m := by rw [List.length_append]; omega
/-- Texts one behind the other, and how long they are at most. -/
theorem app_ok {a b : List UInt8} {n m : Nat} (ha : a.length ≤ n) (hb : b.length ≤ m) (hn : n + m ≤ 1000000) : ¬ 9223372036854775807 < (strOf a).size + (strOf b).size := by rw [L3.strOf_size, L3.strOf_size]; omega
/-- A number's bytes by the document, named. -/
theorem refN_is (k : Int) (x : List UInt8) (w : World) (hk : 0 ≤ k ∧ k ≤ 4611686018427387904) (hx : x = encN k.toNat) : Calls Tryz.prog 29 #[.int .i64 k] w (gives (.string (strOf x)) w) := by
  rw [hx]; exact c_refN k w hk
set_option maxHeartbeats 4000000 in
set_option maxRecDepth 100000 in
theorem refbytes_any (c : Crt) (w : World) (h : c.wf) (hr : mayV c = true) : Calls Tryz.prog 31 #[.agg (crtC c)] w (gives (.string (strOf (bytesV c))) w) := by
  have hb0 : Below w.heap.size w (w.alloc (.cells (crtC c) 24)) := below_box _ c
  have k0 := box_new w 24 c
  have c0 : (w.alloc (.cells (crtC c) 24)).cell? ⟨w.heap.size, 0, none⟩ = some (.int .i64 c.kind) := k0.cell 0
  have hw6 := wrap_u h.2.2.2.2.2.2.1
  have hw7 := wrap_u h.2.2.2.2.2.2.2
  clear h
  by_cases h0 : c.kind = 0
  · obtain rfl := may_zero hr h0
    have e : bytesV zeroC = encN (0 : Int).toNat := by show encs [0] = _; simp [encs]
    rw [e]
    have hN := Lib.hid (fun W => c_refN 0 W ⟨by omega, by omega⟩)
    clear e hr h0 hw6 hw7
    replace c0 : (w.alloc (.cells (crtC zeroC) 24)).cell? ⟨w.heap.size, 0, none⟩ = some (.int .i64 0) := c0
    go_enter Tryz.func31, Tryz.ntmps31
    go_upto_region 2 with (go_at_call 29; refine (hN.out _).mono ?_; unfold gives; rintro e w1 ⟨rfl, hb1⟩)
    have d0 : w1.cell? ⟨w.heap.size, 0, none⟩ = some (.int .i64 0) := (k0.below hb1 k0.lt).cell 0
    go_wp2_with fail
    go_ret
    exact ⟨rfl, nxt hb0 hb1⟩
  by_cases h1 : c.kind = 1
  · have e0 : bytesV c = encs [1, c.block, c.view, c.round, (c.sg : Int)] := by unfold bytesV numsV; rw [if_neg h0, if_pos h1]
    obtain ⟨hs, _⟩ := may_one hr h1
    have hkk := h1
    obtain ⟨p1, p2, p3, _, p4⟩ := sg_facts hs
    rw [hkk] at c0
    obtain ⟨x0, hx0⟩ : ∃ y, y = encN (1 : Int).toNat := ⟨_, rfl⟩
    obtain ⟨x1, hx1⟩ : ∃ y, y = encN (c.block).toNat := ⟨_, rfl⟩
    obtain ⟨x2, hx2⟩ : ∃ y, y = encN (c.view).toNat := ⟨_, rfl⟩
    obtain ⟨x3, hx3⟩ : ∃ y, y = encN (c.round).toNat := ⟨_, rfl⟩
    obtain ⟨x4, hx4⟩ : ∃ y, y = encN ((c.sg : Int)).toNat := ⟨_, rfl⟩
    obtain ⟨z1, hz1⟩ : ∃ y, y = x0 ++ x1 := ⟨_, rfl⟩
    obtain ⟨z2, hz2⟩ : ∃ y, y = z1 ++ x2 := ⟨_, rfl⟩
    obtain ⟨z3, hz3⟩ : ∃ y, y = z2 ++ x3 := ⟨_, rfl⟩
    obtain ⟨z4, hz4⟩ : ∃ y, y = z3 ++ x4 := ⟨_, rfl⟩
    have e : bytesV c = z4 := by rw [e0, hz4, hz3, hz2, hz1, hx0, hx1, hx2, hx3, hx4]; simp [encs]
    rw [e]
    have l0 : x0.length ≤ 9 := by rw [hx0]; exact encN_len ⟨by omega, by omega⟩
    have N0 := Lib.hid (fun W => refN_is (1 : Int) x0 W ⟨by omega, by omega⟩ hx0)
    have l1 : x1.length ≤ 9 := by rw [hx1]; exact encN_len ⟨by omega, by omega⟩
    have N1 := Lib.hid (fun W => refN_is c.block x1 W ⟨by omega, by omega⟩ hx1)
    have l2 : x2.length ≤ 9 := by rw [hx2]; exact encN_len ⟨by omega, by omega⟩
    have N2 := Lib.hid (fun W => refN_is c.view x2 W ⟨by omega, by omega⟩ hx2)
    have l3 : x3.length ≤ 9 := by rw [hx3]; exact encN_len ⟨by omega, by omega⟩
    have N3 := Lib.hid (fun W => refN_is c.round x3 W ⟨by omega, by omega⟩ hx3)
    have l4 : x4.length ≤ 9 := by rw [hx4]; exact encN_len ⟨by omega, by omega⟩
    have N4 : Hid (∀ W, Calls Tryz.prog 29 #[.int .i64 (wrap64 (c.sg : Int))] W (gives (.string (strOf x4)) W)) := Lib.hid (fun W => by rw [hw6]; exact refN_is (c.sg : Int) x4 W ⟨by omega, by omega⟩ hx4)
    have m1 : z1.length ≤ 18 := by rw [hz1]; exact len_app _ _ 9 9 l0 l1
    have a1 := app_ok l0 l1 (by omega)
    have s1 : strOf x0 ++ strOf x1 = strOf z1 := by rw [hz1]; exact L3.strOf_app _ _
    have m2 : z2.length ≤ 27 := by rw [hz2]; exact len_app _ _ 18 9 m1 l2
    have a2 := app_ok m1 l2 (by omega)
    have s2 : strOf z1 ++ strOf x2 = strOf z2 := by rw [hz2]; exact L3.strOf_app _ _
    have m3 : z3.length ≤ 36 := by rw [hz3]; exact len_app _ _ 27 9 m2 l3
    have a3 := app_ok m2 l3 (by omega)
    have s3 : strOf z2 ++ strOf x3 = strOf z3 := by rw [hz3]; exact L3.strOf_app _ _
    have m4 : z4.length ≤ 45 := by rw [hz4]; exact len_app _ _ 36 9 m3 l4
    have a4 := app_ok m3 l4 (by omega)
    have s4 : strOf z3 ++ strOf x4 = strOf z4 := by rw [hz4]; exact L3.strOf_app _ _
    have K0 : Hid (∀ w1, L3.Blk w1 w.heap.size 24 (crtC c) → w1.cell? ⟨w.heap.size, 0, none⟩ = some (.int .i64 1)) := Lib.hid (fun w1 k => by rw [← hkk]; exact k.cell 0)
    clear hw6 hw7 e e0 hs hkk hr h0 h1 p1 p2 p3 p4  hx0 hx1 hx2 hx3 hx4 hz1 hz2 hz3 hz4 l0 l1 l2 l3 l4 m1 m2 m3 m4
    go_enter Tryz.func31, Tryz.ntmps31
    go_upto_region 2 with (go_at_call 29; refine (N0.out _).mono ?_; unfold gives; rintro e w1 ⟨rfl, hb1⟩)
    have k1 := k0.below hb1 k0.lt
    have d0 := K0.out _ k1
    have hbA := nxt hb0 hb1
    clear c0 k0 hb0 hb1
    go_upto_region 3 with fail
    have ne2 : Nonempty (WorldIn (Below w1.heap.size w1)) := ⟨⟨w1, Below.refl _ _⟩⟩
    have y1 : ∀ y : WorldIn (Below w1.heap.size w1), y.w.cell? ⟨w.heap.size, 1, none⟩ = some (.int .i64 c.block) := fun y => (k1.below y.h k1.lt).cell 1
    have y2 : ∀ y : WorldIn (Below w1.heap.size w1), y.w.cell? ⟨w.heap.size, 2, none⟩ = some (.int .i64 c.view) := fun y => (k1.below y.h k1.lt).cell 2
    have y3 : ∀ y : WorldIn (Below w1.heap.size w1), y.w.cell? ⟨w.heap.size, 3, none⟩ = some (.int .i64 c.round) := fun y => (k1.below y.h k1.lt).cell 3
    have y6 : ∀ y : WorldIn (Below w1.heap.size w1), y.w.cell? ⟨w.heap.size, 6, none⟩ = some (.int .u32 c.sg) := fun y => (k1.below y.h k1.lt).cell 6
    refine wp_region_S (Below w1.heap.size w1) (by kernel_rfl) (by kernel_rfl) (Below.refl w1.heap.size w1).drew ?_
    iterate 3 go_big_quiet_step (fail)
    refine wpQuiet_fn rfl 29 _ _ rfl Tryz.call29 [.int .i64 c.block] rfl (v := .string (strOf x1)) (fun x => (N1.out x.w).mono fun e w' ⟨he, hb⟩ => ⟨he, nxt x.h hb⟩) ?_
    conv => arg 6; simp only [Act.put, List.setIfInBounds_toArray, List.set_cons_zero, List.set_cons_succ]
    iterate 3 go_big_quiet_step (fail)
    refine wpQuiet_fn rfl 29 _ _ rfl Tryz.call29 [.int .i64 c.view] rfl (v := .string (strOf x2)) (fun x => (N2.out x.w).mono fun e w' ⟨he, hb⟩ => ⟨he, nxt x.h hb⟩) ?_
    conv => arg 6; simp only [Act.put, List.setIfInBounds_toArray, List.set_cons_zero, List.set_cons_succ]
    iterate 3 go_big_quiet_step (fail)
    refine wpQuiet_fn rfl 29 _ _ rfl Tryz.call29 [.int .i64 c.round] rfl (v := .string (strOf x3)) (fun x => (N3.out x.w).mono fun e w' ⟨he, hb⟩ => ⟨he, nxt x.h hb⟩) ?_
    conv => arg 6; simp only [Act.put, List.setIfInBounds_toArray, List.set_cons_zero, List.set_cons_succ]
    iterate 4 go_big_quiet_step (fail)
    refine wpQuiet_fn rfl 29 _ _ rfl Tryz.call29 [.int .i64 (wrap64 (c.sg : Int))] rfl (v := .string (strOf x4)) (fun x => (N4.out x.w).mono fun e w' ⟨he, hb⟩ => ⟨he, nxt x.h hb⟩) ?_
    conv => arg 6; simp only [Act.put, List.setIfInBounds_toArray, List.set_cons_zero, List.set_cons_succ]
    iterate 2 go_big_quiet_step (fail)
    refine wpQuiet_nil ?_
    intro x
    obtain ⟨v2, hv2⟩ := x
    dsimp only
    have k2 := k1.below hv2 k1.lt
    have d2 := K0.out _ k2
    have hbB := nxt hbA hv2
    clear ne2 y1 y2 y3 y6 d0
    go_wp2_with fail
    go_ret
    exact ⟨rfl, hbB⟩
  have e0 : bytesV c = encs [2, c.block, c.view, c.round, (c.sg : Int), c.height, c.author, (c.co : Int)] := by unfold bytesV numsV; rw [if_neg h0, if_neg h1]
  obtain ⟨hkk, hs, q1, q2, q3⟩ := may_two hr h0 h1
  obtain ⟨p1, p2, p3, _, p4⟩ := sg_facts hs
  rw [hkk] at c0
  obtain ⟨x0, hx0⟩ : ∃ y, y = encN (2 : Int).toNat := ⟨_, rfl⟩
  obtain ⟨x1, hx1⟩ : ∃ y, y = encN (c.block).toNat := ⟨_, rfl⟩
  obtain ⟨x2, hx2⟩ : ∃ y, y = encN (c.view).toNat := ⟨_, rfl⟩
  obtain ⟨x3, hx3⟩ : ∃ y, y = encN (c.round).toNat := ⟨_, rfl⟩
  obtain ⟨x4, hx4⟩ : ∃ y, y = encN ((c.sg : Int)).toNat := ⟨_, rfl⟩
  obtain ⟨x5, hx5⟩ : ∃ y, y = encN (c.height).toNat := ⟨_, rfl⟩
  obtain ⟨x6, hx6⟩ : ∃ y, y = encN (c.author).toNat := ⟨_, rfl⟩
  obtain ⟨x7, hx7⟩ : ∃ y, y = encN ((c.co : Int)).toNat := ⟨_, rfl⟩
  obtain ⟨z1, hz1⟩ : ∃ y, y = x0 ++ x1 := ⟨_, rfl⟩
  obtain ⟨z2, hz2⟩ : ∃ y, y = z1 ++ x2 := ⟨_, rfl⟩
  obtain ⟨z3, hz3⟩ : ∃ y, y = z2 ++ x3 := ⟨_, rfl⟩
  obtain ⟨z4, hz4⟩ : ∃ y, y = z3 ++ x4 := ⟨_, rfl⟩
  obtain ⟨z5, hz5⟩ : ∃ y, y = z4 ++ x5 := ⟨_, rfl⟩
  obtain ⟨z6, hz6⟩ : ∃ y, y = z5 ++ x6 := ⟨_, rfl⟩
  obtain ⟨z7, hz7⟩ : ∃ y, y = z6 ++ x7 := ⟨_, rfl⟩
  have e : bytesV c = z7 := by rw [e0, hz7, hz6, hz5, hz4, hz3, hz2, hz1, hx0, hx1, hx2, hx3, hx4, hx5, hx6, hx7]; simp [encs]
  rw [e]
  have l0 : x0.length ≤ 9 := by rw [hx0]; exact encN_len ⟨by omega, by omega⟩
  have N0 := Lib.hid (fun W => refN_is (2 : Int) x0 W ⟨by omega, by omega⟩ hx0)
  have l1 : x1.length ≤ 9 := by rw [hx1]; exact encN_len ⟨by omega, by omega⟩
  have N1 := Lib.hid (fun W => refN_is c.block x1 W ⟨by omega, by omega⟩ hx1)
  have l2 : x2.length ≤ 9 := by rw [hx2]; exact encN_len ⟨by omega, by omega⟩
  have N2 := Lib.hid (fun W => refN_is c.view x2 W ⟨by omega, by omega⟩ hx2)
  have l3 : x3.length ≤ 9 := by rw [hx3]; exact encN_len ⟨by omega, by omega⟩
  have N3 := Lib.hid (fun W => refN_is c.round x3 W ⟨by omega, by omega⟩ hx3)
  have l4 : x4.length ≤ 9 := by rw [hx4]; exact encN_len ⟨by omega, by omega⟩
  have N4 : Hid (∀ W, Calls Tryz.prog 29 #[.int .i64 (wrap64 (c.sg : Int))] W (gives (.string (strOf x4)) W)) := Lib.hid (fun W => by rw [hw6]; exact refN_is (c.sg : Int) x4 W ⟨by omega, by omega⟩ hx4)
  have l5 : x5.length ≤ 9 := by rw [hx5]; exact encN_len ⟨by omega, by omega⟩
  have N5 := Lib.hid (fun W => refN_is c.height x5 W ⟨by omega, by omega⟩ hx5)
  have l6 : x6.length ≤ 9 := by rw [hx6]; exact encN_len ⟨by omega, by omega⟩
  have N6 := Lib.hid (fun W => refN_is c.author x6 W ⟨by omega, by omega⟩ hx6)
  have l7 : x7.length ≤ 9 := by rw [hx7]; exact encN_len ⟨by omega, by omega⟩
  have N7 : Hid (∀ W, Calls Tryz.prog 29 #[.int .i64 (wrap64 (c.co : Int))] W (gives (.string (strOf x7)) W)) := Lib.hid (fun W => by rw [hw7]; exact refN_is (c.co : Int) x7 W ⟨by omega, by omega⟩ hx7)
  have m1 : z1.length ≤ 18 := by rw [hz1]; exact len_app _ _ 9 9 l0 l1
  have a1 := app_ok l0 l1 (by omega)
  have s1 : strOf x0 ++ strOf x1 = strOf z1 := by rw [hz1]; exact L3.strOf_app _ _
  have m2 : z2.length ≤ 27 := by rw [hz2]; exact len_app _ _ 18 9 m1 l2
  have a2 := app_ok m1 l2 (by omega)
  have s2 : strOf z1 ++ strOf x2 = strOf z2 := by rw [hz2]; exact L3.strOf_app _ _
  have m3 : z3.length ≤ 36 := by rw [hz3]; exact len_app _ _ 27 9 m2 l3
  have a3 := app_ok m2 l3 (by omega)
  have s3 : strOf z2 ++ strOf x3 = strOf z3 := by rw [hz3]; exact L3.strOf_app _ _
  have m4 : z4.length ≤ 45 := by rw [hz4]; exact len_app _ _ 36 9 m3 l4
  have a4 := app_ok m3 l4 (by omega)
  have s4 : strOf z3 ++ strOf x4 = strOf z4 := by rw [hz4]; exact L3.strOf_app _ _
  have m5 : z5.length ≤ 54 := by rw [hz5]; exact len_app _ _ 45 9 m4 l5
  have a5 := app_ok m4 l5 (by omega)
  have s5 : strOf z4 ++ strOf x5 = strOf z5 := by rw [hz5]; exact L3.strOf_app _ _
  have m6 : z6.length ≤ 63 := by rw [hz6]; exact len_app _ _ 54 9 m5 l6
  have a6 := app_ok m5 l6 (by omega)
  have s6 : strOf z5 ++ strOf x6 = strOf z6 := by rw [hz6]; exact L3.strOf_app _ _
  have m7 : z7.length ≤ 72 := by rw [hz7]; exact len_app _ _ 63 9 m6 l7
  have a7 := app_ok m6 l7 (by omega)
  have s7 : strOf z6 ++ strOf x7 = strOf z7 := by rw [hz7]; exact L3.strOf_app _ _
  have K0 : Hid (∀ w1, L3.Blk w1 w.heap.size 24 (crtC c) → w1.cell? ⟨w.heap.size, 0, none⟩ = some (.int .i64 2)) := Lib.hid (fun w1 k => by rw [← hkk]; exact k.cell 0)
  clear hw6 hw7 e e0 hs hkk hr h0 h1 p1 p2 p3 p4 q1 q2 q3 hx0 hx1 hx2 hx3 hx4 hx5 hx6 hx7 hz1 hz2 hz3 hz4 hz5 hz6 hz7 l0 l1 l2 l3 l4 l5 l6 l7 m1 m2 m3 m4 m5 m6 m7
  go_enter Tryz.func31, Tryz.ntmps31
  go_upto_region 2 with (go_at_call 29; refine (N0.out _).mono ?_; unfold gives; rintro e w1 ⟨rfl, hb1⟩)
  have k1 := k0.below hb1 k0.lt
  have d0 := K0.out _ k1
  have hbA := nxt hb0 hb1
  clear c0 k0 hb0 hb1
  go_upto_region 3 with fail
  have ne2 : Nonempty (WorldIn (Below w1.heap.size w1)) := ⟨⟨w1, Below.refl _ _⟩⟩
  have y1 : ∀ y : WorldIn (Below w1.heap.size w1), y.w.cell? ⟨w.heap.size, 1, none⟩ = some (.int .i64 c.block) := fun y => (k1.below y.h k1.lt).cell 1
  have y2 : ∀ y : WorldIn (Below w1.heap.size w1), y.w.cell? ⟨w.heap.size, 2, none⟩ = some (.int .i64 c.view) := fun y => (k1.below y.h k1.lt).cell 2
  have y3 : ∀ y : WorldIn (Below w1.heap.size w1), y.w.cell? ⟨w.heap.size, 3, none⟩ = some (.int .i64 c.round) := fun y => (k1.below y.h k1.lt).cell 3
  have y6 : ∀ y : WorldIn (Below w1.heap.size w1), y.w.cell? ⟨w.heap.size, 6, none⟩ = some (.int .u32 c.sg) := fun y => (k1.below y.h k1.lt).cell 6
  refine wp_region_S (Below w1.heap.size w1) (by kernel_rfl) (by kernel_rfl) (Below.refl w1.heap.size w1).drew ?_
  iterate 3 go_big_quiet_step (fail)
  refine wpQuiet_fn rfl 29 _ _ rfl Tryz.call29 [.int .i64 c.block] rfl (v := .string (strOf x1)) (fun x => (N1.out x.w).mono fun e w' ⟨he, hb⟩ => ⟨he, nxt x.h hb⟩) ?_
  conv => arg 6; simp only [Act.put, List.setIfInBounds_toArray, List.set_cons_zero, List.set_cons_succ]
  iterate 3 go_big_quiet_step (fail)
  refine wpQuiet_fn rfl 29 _ _ rfl Tryz.call29 [.int .i64 c.view] rfl (v := .string (strOf x2)) (fun x => (N2.out x.w).mono fun e w' ⟨he, hb⟩ => ⟨he, nxt x.h hb⟩) ?_
  conv => arg 6; simp only [Act.put, List.setIfInBounds_toArray, List.set_cons_zero, List.set_cons_succ]
  iterate 3 go_big_quiet_step (fail)
  refine wpQuiet_fn rfl 29 _ _ rfl Tryz.call29 [.int .i64 c.round] rfl (v := .string (strOf x3)) (fun x => (N3.out x.w).mono fun e w' ⟨he, hb⟩ => ⟨he, nxt x.h hb⟩) ?_
  conv => arg 6; simp only [Act.put, List.setIfInBounds_toArray, List.set_cons_zero, List.set_cons_succ]
  iterate 4 go_big_quiet_step (fail)
  refine wpQuiet_fn rfl 29 _ _ rfl Tryz.call29 [.int .i64 (wrap64 (c.sg : Int))] rfl (v := .string (strOf x4)) (fun x => (N4.out x.w).mono fun e w' ⟨he, hb⟩ => ⟨he, nxt x.h hb⟩) ?_
  conv => arg 6; simp only [Act.put, List.setIfInBounds_toArray, List.set_cons_zero, List.set_cons_succ]
  iterate 2 go_big_quiet_step (fail)
  refine wpQuiet_nil ?_
  intro x
  obtain ⟨v2, hv2⟩ := x
  dsimp only
  have k2 := k1.below hv2 k1.lt
  have d2 := K0.out _ k2
  have hbB := nxt hbA hv2
  clear ne2 y1 y2 y3 y6 d0
  go_upto_region 5 with fail
  have ne3 : Nonempty (WorldIn (Below v2.heap.size v2)) := ⟨⟨v2, Below.refl _ _⟩⟩
  have y4 : ∀ y : WorldIn (Below v2.heap.size v2), y.w.cell? ⟨w.heap.size, 4, none⟩ = some (.int .i64 c.height) := fun y => (k2.below y.h k2.lt).cell 4
  have y5 : ∀ y : WorldIn (Below v2.heap.size v2), y.w.cell? ⟨w.heap.size, 5, none⟩ = some (.int .i64 c.author) := fun y => (k2.below y.h k2.lt).cell 5
  have y7 : ∀ y : WorldIn (Below v2.heap.size v2), y.w.cell? ⟨w.heap.size, 7, none⟩ = some (.int .u32 c.co) := fun y => (k2.below y.h k2.lt).cell 7
  refine wp_region_S (Below v2.heap.size v2) (by kernel_rfl) (by kernel_rfl) (Below.refl v2.heap.size v2).drew ?_
  iterate 3 go_big_quiet_step (fail)
  refine wpQuiet_fn rfl 29 _ _ rfl Tryz.call29 [.int .i64 c.height] rfl (v := .string (strOf x5)) (fun x => (N5.out x.w).mono fun e w' ⟨he, hb⟩ => ⟨he, nxt x.h hb⟩) ?_
  conv => arg 6; simp only [Act.put, List.setIfInBounds_toArray, List.set_cons_zero, List.set_cons_succ]
  iterate 3 go_big_quiet_step (fail)
  refine wpQuiet_fn rfl 29 _ _ rfl Tryz.call29 [.int .i64 c.author] rfl (v := .string (strOf x6)) (fun x => (N6.out x.w).mono fun e w' ⟨he, hb⟩ => ⟨he, nxt x.h hb⟩) ?_
  conv => arg 6; simp only [Act.put, List.setIfInBounds_toArray, List.set_cons_zero, List.set_cons_succ]
  iterate 4 go_big_quiet_step (fail)
  refine wpQuiet_fn rfl 29 _ _ rfl Tryz.call29 [.int .i64 (wrap64 (c.co : Int))] rfl (v := .string (strOf x7)) (fun x => (N7.out x.w).mono fun e w' ⟨he, hb⟩ => ⟨he, nxt x.h hb⟩) ?_
  conv => arg 6; simp only [Act.put, List.setIfInBounds_toArray, List.set_cons_zero, List.set_cons_succ]
  iterate 2 go_big_quiet_step (fail)
  refine wpQuiet_nil ?_
  intro x
  obtain ⟨v3, hv3⟩ := x
  dsimp only
  clear ne3 y4 y5 y7
  go_wp2_with fail
  go_ret
  exact ⟨rfl, nxt hbB hv3⟩
end Go.Proofs.YtgmejaiifibfoaaGreatDoor.L11

/-
  What was signed, by the code and by the document's answer: the same; which may be, by the document's answer.
-/
set_option linter.unusedSimpArgs false
set_option linter.unusedVariables false
namespace Go.Proofs.YtgmejaiifibfoaaGreatDoor.L11
open Go.RowKit Go.Lib

theorem in_any (n lo hi : Int) (w : World) : Calls Tryz.prog 59 #[.int .i64 n, .int .i64 lo, .int .i64 hi] w fun e w' => e = .returned (.bool (okW n lo hi)) ∧ w = w' := by
  by_cases h0 : lo ≤ n
  · by_cases h1 : n ≤ hi
    · have hk := okW_mk h0 h1
      go_enter Tryz.func59, Tryz.ntmps59
      go_wp2
      go_ret
      exact ⟨congrArg (fun b => Ending.returned (.bool b)) hk.symm, rfl⟩
    · have hk := okW_not (n := n) (lo := lo) (hi := hi) (by omega)
      go_enter Tryz.func59, Tryz.ntmps59
      go_wp2
      go_ret
      exact ⟨rfl, rfl⟩
  · have hk := okW_not (n := n) (lo := lo) (hi := hi) (by omega)
    go_enter Tryz.func59, Tryz.ntmps59
    go_wp2
    go_ret
    exact ⟨rfl, rfl⟩
theorem in_is (n lo hi : Int) (b : Bool) (w : World) (h : okW n lo hi = b) : Calls Tryz.prog 59 #[.int .i64 n, .int .i64 lo, .int .i64 hi] w fun e w' => e = .returned (.bool b) ∧ w = w' := by
  have := in_any n lo hi w; rw [h] at this; exact this
/-- What the document asks of every one but the genesis. -/
def sixV (c : Crt) : Bool := okW c.block 1 2147483647 && okW c.view 1 1048576 && okW c.round 1 1073741824 && !decide (c.sg = 0) && setV c.sg && setV c.co
def refV (c : Crt) : Bool :=
  if c.kind = 0 then decide (c = zeroC)
  else if sixV c = false then false
  else if c.kind = 1 then decide (c.height = 0) && decide (c.author = 0) && decide (c.co = 0)
  else decide (c.kind = 2) && okW c.height 1 3 && okW c.author 0 9
theorem refV_eq (c : Crt) : refV c = mayV c := by
  unfold refV mayV
  by_cases h0 : c.kind = 0
  · rw [if_pos h0, if_pos h0]
  rw [if_neg h0, if_neg h0]
  by_cases h1 : c.kind = 1
  · rw [if_pos h1, if_pos h1]
    have e : sixV c = (sgV c && setV c.co) := rfl
    rw [e]
    by_cases hc : c.co = 0
    · have : setV c.co = true := by rw [hc]; rfl
      rw [this, Bool.and_true]
      cases sgV c <;> simp
    · have : decide (c.co = 0) = false := decide_eq_false hc
      rw [this]
      simp
  rw [if_neg h1, if_neg h1]
  by_cases h2 : c.kind = 2
  · rw [if_pos h2]
    have e : sixV c = (sgV c && setV c.co) := rfl
    rw [e, decide_eq_true h2]
    cases sgV c <;> cases setV c.co <;> simp
  · rw [if_neg h2, decide_eq_false h2]
    simp
/-- The first of six that is false, or none. -/
theorem six (a b c d e f : Bool) : a = false ∨ (a = true ∧ b = false) ∨ (a = true ∧ b = true ∧ c = false) ∨ (a = true ∧ b = true ∧ c = true ∧ d = false) ∨ (a = true ∧ b = true ∧ c = true ∧ d = true ∧ e = false) ∨ (a = true ∧ b = true ∧ c = true ∧ d = true ∧ e = true ∧ f = false) ∨ (a = true ∧ b = true ∧ c = true ∧ d = true ∧ e = true ∧ f = true) := by
  cases a <;> cases b <;> cases c <;> cases d <;> cases e <;> cases f <;> simp
theorem lt1_no {n : Nat} (h : (!decide (n = 0)) = true) : ¬ ((n : Int) < 1) := by
  have : n ≠ 0 := by simpa using h
  omega
theorem set_le {n : Nat} (h : setV n = true) : ¬ ((1023 : Int) < (n : Int)) := by
  have : n < 1024 := of_decide_eq_true h
  omega
theorem set_gt {n : Nat} (h : setV n = false) : (1023 : Int) < (n : Int) := by
  have : ¬ n < 1024 := of_decide_eq_false h
  omega
set_option maxHeartbeats 2000000 in
set_option maxRecDepth 100000 in
theorem refcheck_ref (c : Crt) (w : World) (h : c.wf) : Calls Tryz.prog 23 #[.agg (crtC c)] w (gives (.bool (refV c)) w) := by
  have hb0 : Below w.heap.size w (w.alloc (.cells (crtC c) 24)) := below_box _ c
  have k0 := box_new w 24 c
  have hq := fun W => eqlC h zeroC_wf W
  obtain ⟨c0, c1, c2, c3, c4, c5, c6, c7⟩ := box_of k0
  have HQ := Lib.hid hq
  clear hq h
  by_cases hk0 : c.kind = 0
  · have e : refV c = decide (c = zeroC) := by unfold refV; rw [if_pos hk0]
    rw [hk0] at c0
    have HE := Lib.hid e
    clear e hk0
    go_enter Tryz.func23, Tryz.ntmps23
    go_wp2_with (first
      | (refine wpList_row_at rfl _ _ rfl w.heap.size rfl _ _ _ _ k0 Tryz.underlying24 rfl crtInfo ?_)
      | (refine wpList_build rfl _ _ rfl #[] rfl (build_zero _) ?_)
      | (refine wpList_binop rfl _ _ _ _ _ rfl (crtC c) (crtC zeroC) rfl rfl (by kernel_rfl) (HQ.out _) ?_))
    go_ret
    exact ⟨congrArg (fun b => Ending.returned (.bool b)) HE.out.symm, hb0⟩
  have hk0' : (c.kind == 0) = false := by simpa using hk0
  have e6 : sixV c = (okW c.block 1 2147483647 && okW c.view 1 1048576 && okW c.round 1 1073741824 && !decide (c.sg = 0) && setV c.sg && setV c.co) := rfl
  by_cases h6 : sixV c = false
  · have e : refV c = false := by unfold refV; rw [if_neg hk0, if_pos h6]
    rw [e]
    rw [h6] at e6
    rcases six (okW c.block 1 2147483647) (okW c.view 1 1048576) (okW c.round 1 1073741824) (!decide (c.sg = 0)) (setV c.sg) (setV c.co) with a | ⟨a, b⟩ | ⟨a, b, d⟩ | ⟨a, b, d, f⟩ | ⟨a, b, d, f, g⟩ | ⟨a, b, d, f, g, i⟩ | ⟨a, b, d, f, g, i⟩
    case' inr.inr.inr.inl => have f1 : c.sg = 0 := by simpa using f
    case' inr.inr.inr.inl => rw [f1] at c6
    case' inr.inr.inr.inr.inl => have f1 := lt1_no f
    case' inr.inr.inr.inr.inl => have g1 := set_gt g
    case' inr.inr.inr.inr.inr.inl => have f1 := lt1_no f
    case' inr.inr.inr.inr.inr.inl => have g1 := set_le g
    case' inr.inr.inr.inr.inr.inl => have i1 := set_gt i
    case' inr.inr.inr.inr.inr.inr => rw [a, b, d, f, g, i] at e6
    case' inr.inr.inr.inr.inr.inr => cases e6
    all_goals
      clear e e6 h6 hk0
      go_enter Tryz.func23, Tryz.ntmps23
      go_wp2_with (first
        | (go_at_call 59; first
            | ((with_reducible refine (in_is _ _ _ _ _ a).mono ?_); rintro e w1 ⟨rfl, rfl⟩)
            | ((with_reducible refine (in_is _ _ _ _ _ b).mono ?_); rintro e w1 ⟨rfl, rfl⟩)
            | ((with_reducible refine (in_is _ _ _ _ _ d).mono ?_); rintro e w1 ⟨rfl, rfl⟩)))
      go_ret
      exact ⟨rfl, hb0⟩
  have h6t : sixV c = true := by simpa using h6
  rw [e6] at h6t
  simp only [Bool.and_eq_true] at h6t
  obtain ⟨⟨⟨⟨⟨a, b⟩, d⟩, f⟩, g⟩, i⟩ := h6t
  have f1 := lt1_no f
  have g1 := set_le g
  have i1 := set_le i
  by_cases hk1 : c.kind = 1
  · have e : refV c = (decide (c.height = 0) && decide (c.author = 0) && decide (c.co = 0)) := by unfold refV; rw [if_neg hk0, if_neg h6, if_pos hk1]
    rw [hk1] at c0
    clear h6 e6 hk0 hk0' hk1 f g i
    rcases four (decide (c.height = 0)) (decide (c.author = 0)) (decide (c.co = 0)) true with j | ⟨j, k⟩ | ⟨j, k, l⟩ | ⟨j, k, l, m⟩ | ⟨j, k, l, m⟩
    case' inr.inr.inr.inl => cases m
    case' inl => have j' : (c.height == 0) = false := by simpa using j
    case' inr.inl => have j' : c.height = 0 := by simpa using j
    case' inr.inl => have k' : (c.author == 0) = false := by simpa using k
    case' inr.inr.inl => have j' : c.height = 0 := by simpa using j
    case' inr.inr.inl => have k' : c.author = 0 := by simpa using k
    case' inr.inr.inl => have l' : ((c.co : Int) == 0) = false := by simpa using l
    case' inr.inr.inr.inr => have j' : c.height = 0 := by simpa using j
    case' inr.inr.inr.inr => have k' : c.author = 0 := by simpa using k
    case' inr.inr.inr.inr => have l' : ((c.co : Int) == 0) = true := by simpa using l
    all_goals
      have HE : Hid (refV c = _) := Lib.hid e
      clear e
      go_enter Tryz.func23, Tryz.ntmps23
      go_wp2_with (first
        | (go_at_call 59; first
            | ((with_reducible refine (in_is _ _ _ _ _ a).mono ?_); rintro e w1 ⟨rfl, rfl⟩)
            | ((with_reducible refine (in_is _ _ _ _ _ b).mono ?_); rintro e w1 ⟨rfl, rfl⟩)
            | ((with_reducible refine (in_is _ _ _ _ _ d).mono ?_); rintro e w1 ⟨rfl, rfl⟩)))
      go_ret
      refine ⟨?_, hb0⟩
      rw [HE.out]
      simp [*]
  have hk1' : (c.kind == 1) = false := by simpa using hk1
  by_cases hk2 : c.kind = 2
  · have e : refV c = (okW c.height 1 3 && okW c.author 0 9) := by unfold refV; rw [if_neg hk0, if_neg h6, if_neg hk1, decide_eq_true hk2, Bool.true_and]
    rw [hk2] at c0
    clear h6 e6 hk0 hk0' hk1 hk1' hk2 f g i
    rcases four (okW c.height 1 3) (okW c.author 0 9) true true with j | ⟨j, k⟩ | ⟨j, k, l⟩ | ⟨j, k, l, m⟩ | ⟨j, k, l, m⟩
    case' inr.inr.inl => cases l
    case' inr.inr.inr.inl => cases m
    all_goals
      have HE : Hid (refV c = _) := Lib.hid e
      clear e
      go_enter Tryz.func23, Tryz.ntmps23
      go_wp2_with (first
        | (go_at_call 59; first
            | ((with_reducible refine (in_is _ _ _ _ _ a).mono ?_); rintro e w1 ⟨rfl, rfl⟩)
            | ((with_reducible refine (in_is _ _ _ _ _ b).mono ?_); rintro e w1 ⟨rfl, rfl⟩)
            | ((with_reducible refine (in_is _ _ _ _ _ d).mono ?_); rintro e w1 ⟨rfl, rfl⟩)
            | ((with_reducible refine (in_is _ _ _ _ _ j).mono ?_); rintro e w1 ⟨rfl, rfl⟩)
            | ((with_reducible refine (in_is _ _ _ _ _ k).mono ?_); rintro e w1 ⟨rfl, rfl⟩)))
      go_ret
      refine ⟨?_, hb0⟩
      rw [HE.out]
      simp [*]
  have hk2' : (c.kind == 2) = false := by simpa using hk2
  have e : refV c = false := by unfold refV; rw [if_neg hk0, if_neg h6, if_neg hk1, decide_eq_false hk2]; rfl
  rw [e]
  clear e e6 h6 hk0 hk1 hk2 f g i
  go_enter Tryz.func23, Tryz.ntmps23
  go_wp2_with (first
    | (go_at_call 59; first
        | ((with_reducible refine (in_is _ _ _ _ _ a).mono ?_); rintro e w1 ⟨rfl, rfl⟩)
        | ((with_reducible refine (in_is _ _ _ _ _ b).mono ?_); rintro e w1 ⟨rfl, rfl⟩)
        | ((with_reducible refine (in_is _ _ _ _ _ d).mono ?_); rintro e w1 ⟨rfl, rfl⟩)))
  go_ret
  exact ⟨rfl, hb0⟩
theorem refcheck_any (c : Crt) (w : World) (h : c.wf) : Calls Tryz.prog 23 #[.agg (crtC c)] w (gives (.bool (mayV c)) w) := by
  rw [← refV_eq]; exact refcheck_ref c w h
end Go.Proofs.YtgmejaiifibfoaaGreatDoor.L11

/-
  What was signed, by the document's answer: the same.
-/
set_option linter.unusedSimpArgs false
set_option linter.unusedVariables false
namespace Go.Proofs.YtgmejaiifibfoaaGreatDoor.L11
open Go.RowKit Go.Lib

end Go.Proofs.YtgmejaiifibfoaaGreatDoor.L11

/-
  The next certificate of a reader, by the code: what may be, or an error and nothing; of its own bytes it is the certificate.
-/
set_option linter.unusedSimpArgs false
set_option linter.unusedVariables false
namespace Go.Proofs.YtgmejaiifibfoaaGreatDoor.L11
open Go.RowKit Go.Lib
open L3 (Rdr leaves numS failS rdN encN encs)

theorem done_eq (p : List UInt8 × Int) (h : p.2 ≠ 0 → p.1 = []) (h0 : p.1.length = 0) : L3.doneV p = p.2 := by
  unfold L3.doneV
  by_cases he : p.2 = 0
  · rw [if_neg (by simpa using he), if_neg (by omega), he]
  · rw [if_pos he]
theorem failed_any (g : Nat) (p : List UInt8 × Int) (w : World) (h : Rdr w g p) : Calls Tryz.prog 101 #[.pointer (some ⟨g, 0, none⟩)] w fun e w' => e = .returned (.bool (decide (p.2 ≠ 0))) ∧ w = w' := by
  have hR := L3.rrest_any g p w h
  have hD := L3.rdone_any g p w h
  have he : p.2 ≠ 0 → p.1 = [] := by obtain ⟨_, _, _, _, _, _, he⟩ := h; exact he
  by_cases h0 : p.1.length = 0
  · rw [done_eq p he h0] at hD
    obtain ⟨e, hp⟩ : ∃ e, e = p.2 := ⟨_, rfl⟩
    obtain ⟨n, hn⟩ : ∃ n, n = p.1.length := ⟨_, rfl⟩
    rw [← hn] at hR h0
    rw [← hp] at hD ⊢
    subst h0
    clear hp hn he h
    by_cases e0 : e = 0
    · subst e0
      go_enter Tryz.func101, Tryz.ntmps101
      go_wp2_with (first
        | (go_at_call 121; refine hR.mono ?_; rintro e w1 ⟨rfl, rfl⟩)
        | (go_at_call 41; refine hD.mono ?_; rintro e w1 ⟨rfl, rfl⟩))
      go_ret
      exact ⟨rfl, rfl⟩
    · have e1 : (e == 0) = false := by simpa using e0
      have e2 : (e != 0) = true := by simpa using e0
      have e3 : decide (e ≠ 0) = true := by simpa using e0
      rw [e3]
      clear e0 e3
      go_enter Tryz.func101, Tryz.ntmps101
      go_wp2_with (first
        | (go_at_call 121; refine hR.mono ?_; rintro e w1 ⟨rfl, rfl⟩)
        | (go_at_call 41; refine hD.mono ?_; rintro e w1 ⟨rfl, rfl⟩))
      go_ret
      exact ⟨rfl, rfl⟩
  · have e0 : p.2 = 0 := by
      rcases Classical.em (p.2 = 0) with h1 | h1
      · exact h1
      · exact absurd (by rw [he h1]; rfl) h0
    rw [e0]
    obtain ⟨n, hn⟩ : ∃ n, n = p.1.length := ⟨_, rfl⟩
    rw [← hn] at hR h0
    have h1 : ((n : Int) == 0) = false := by simp; omega
    clear hn hD he h h0 e0
    go_enter Tryz.func101, Tryz.ntmps101
    go_wp2_with (first
      | (go_at_call 121; refine hR.mono ?_; rintro e w1 ⟨rfl, rfl⟩))
    go_ret
    exact ⟨rfl, rfl⟩
/-- What is taken, and the reader behind it. -/
def takeC (p : List UInt8 × Int) : Crt × (List UInt8 × Int) := if (readC p).2.2 ≠ 0 ∨ mayV (readC p).1 = false then (zeroC, failS 110 (readC p).2) else readC p
set_option maxHeartbeats 4000000 in
set_option maxRecDepth 100000 in
theorem take_any (g : Nat) (p : List UInt8 × Int) (w : World) (h : Rdr w g p) :
    Calls Tryz.prog 70 #[.pointer (some ⟨g, 0, none⟩)] w fun e w' => e = .returned (.agg (crtC (takeC p).1)) ∧ leaves g (takeC p).2 w w' := by
  have hwf := readC_wf p
  have h1 : Rdr (w.alloc (.cells (crtC zeroC) 24)) g p := rdr_alloc h _
  have hr1 := read_any g p _ h1
  obtain ⟨r, hX⟩ : ∃ r, r = takeC p := ⟨_, rfl⟩
  rw [← hX]
  unfold takeC at hX
  obtain ⟨z, hz⟩ : ∃ z, z = readC p := ⟨_, rfl⟩
  rw [← hz] at hX hr1 hwf
  obtain ⟨t, q⟩ := z
  dsimp only at hX hr1 hwf
  have HM := Lib.hid (fun w2 (hl : leaves g q (w.alloc (.cells (crtC zeroC) 24)) w2) => TakeAt.mk h hl t)
  have HC := Lib.hid (And.intro hr1 (fun W => may_any t W hwf))
  have HXX := Lib.hid hX
  clear h1 hr1 hz hwf h hX
  go_enter Tryz.func70, Tryz.ntmps70
  go_upto_region 2 with (first
    | (go_at_call 100; refine HC.out.1.mono ?_; rintro e w2 ⟨rfl, hl2⟩; have hA := HM.out _ hl2)
    | (refine wpList_store_new rfl _ _ _ rfl _ (crtC t) rfl rfl _ _ crtInfo rfl (crtC_ones _) ?_))
  obtain ⟨G, hG⟩ : ∃ G, G = w2.heap.size := ⟨_, rfl⟩
  rw [← hG] at hA
  rw [← hG]
  clear hG hl2 HM
  refine name_world (fun w3 hw3 => ?_)
  rw [← hw3] at hA
  clear hw3
  have hX := HXX.out
  clear HXX
  by_cases hq : q.2 = 0
  case neg =>
    rw [if_pos (.inl hq)] at hX
    have HX := Lib.hid hX
    have hf := failed_any g q w3 hA.rdr
    rw [decide_eq_true (show q.2 ≠ 0 from hq)] at hf
    clear hX hq
    go_wp2_with (first
        | (go_at_call 101; refine hf.mono ?_; rintro e w4 ⟨rfl, rfl⟩)
        | (go_at_call 68; refine (L3.fail_any g q 110 _ hA.rdr).mono ?_; rintro e w6 ⟨rfl, hl6⟩; have hD := hA.next hl6)
        | (refine wpList_build rfl _ _ rfl #[] rfl (build_zero _) ?_)
        | (refine wpList_store_row rfl _ _ _ rfl w.heap.size (crtC zeroC) rfl rfl _ _ hD.blkR crtInfo rfl (crtC_ones _) ?_))
    (try simp only [Exit.inBlock, Exit.then])
    refine bodyPost_ret (v := .agg (crtC zeroC)) (results_row rfl _ _ w.heap.size rfl _ _ _ _ (blk_setRow hD.blkR) Tryz.underlying24 rfl crtInfo) rfl ?_
    exact ⟨by rw [HX.out], by rw [HX.out]; exact ⟨rdr_row hD.rdr hD.lt _, grown_row hD.grown (Nat.le_refl _) _⟩⟩
  case pos =>
  have hf := failed_any g q w3 hA.rdr
  rw [decide_eq_false (show ¬ q.2 ≠ 0 from fun h => h hq)] at hf
  have hck := HC.out.2 w3
  rcases (Bool.eq_false_or_eq_true (mayV t)).symm with hr | hr
  · rw [if_pos (.inr hr)] at hX
    rw [hr] at hck
    have HX := Lib.hid hX
    have HK := Lib.hid hck
    clear hX hq hck hr
    go_wp2_with (first
        | (go_at_call 101; refine hf.mono ?_; rintro e w4 ⟨rfl, rfl⟩)
        | (refine wpList_row_at rfl _ _ rfl (G) rfl _ _ _ _ hA.blkG Tryz.underlying24 rfl crtInfo ?_)
        | (go_at_call 81; refine HK.out.mono ?_; unfold gives; rintro e w5 ⟨rfl, hb5⟩; have hB := hA.below hb5)
        | (go_at_call 68; refine (L3.fail_any g q 110 _ hB.rdr).mono ?_; rintro e w6 ⟨rfl, hl6⟩; have hD := hB.next hl6)
        | (refine wpList_build rfl _ _ rfl #[] rfl (build_zero _) ?_)
        | (refine wpList_store_row rfl _ _ _ rfl w.heap.size (crtC zeroC) rfl rfl _ _ hD.blkR crtInfo rfl (crtC_ones _) ?_))
    (try simp only [Exit.inBlock, Exit.then])
    refine bodyPost_ret (v := .agg (crtC zeroC)) (results_row rfl _ _ w.heap.size rfl _ _ _ _ (blk_setRow hD.blkR) Tryz.underlying24 rfl crtInfo) rfl ?_
    exact ⟨by rw [HX.out], by rw [HX.out]; exact ⟨rdr_row hD.rdr hD.lt _, grown_row hD.grown (Nat.le_refl _) _⟩⟩
  · rw [if_neg (fun h => h.elim (fun h => h hq) (fun h => by rw [hr] at h; cases h))] at hX
    rw [hr] at hck
    have HX := Lib.hid hX
    have HK := Lib.hid hck
    clear hX hq hck hr
    go_wp2_with (first
        | (go_at_call 101; refine hf.mono ?_; rintro e w4 ⟨rfl, rfl⟩)
        | (go_at_call 81; refine HK.out.mono ?_; unfold gives; rintro e w5 ⟨rfl, hb5⟩; have hB := hA.below hb5)
        | (refine wpList_row_at rfl _ _ rfl (G) rfl _ _ _ _ hB.blkG Tryz.underlying24 rfl crtInfo ?_)
        | (refine wpList_row_at rfl _ _ rfl (G) rfl _ _ _ _ hA.blkG Tryz.underlying24 rfl crtInfo ?_)
        | (refine wpList_store_row rfl _ _ _ rfl w.heap.size (crtC t) rfl rfl _ _ hB.blkR crtInfo rfl (crtC_ones _) ?_))
    (try simp only [Exit.inBlock, Exit.then])
    refine bodyPost_ret (v := .agg (crtC t)) (results_row rfl _ _ w.heap.size rfl _ _ _ _ (blk_setRow hB.blkR) Tryz.underlying24 rfl crtInfo) rfl ?_
    exact ⟨by rw [HX.out], by rw [HX.out]; exact ⟨rdr_row hB.rdr hB.lt _, grown_row hB.grown (Nat.le_refl _) _⟩⟩
/-- A number ahead of other bytes. -/
theorem num_enc (a : Int) (l : List UInt8) (h : 0 ≤ a ∧ a ≤ 4611686018427387904) : numV (encN a.toNat ++ l, 0) = a ∧ numS (encN a.toNat ++ l, 0) = (l, 0) := by
  have e := L3.rd_enc0 a.toNat l (by omega)
  constructor
  · unfold numV
    rw [e]
    show ((a.toNat : Nat) : Int) = a
    omega
  · unfold numS
    rw [e]
    simp
theorem fitV_small {n : Int} (h : n ≤ 2147483647) : fitV n = n := by unfold fitV; rw [if_neg (by omega)]
theorem fitU_small {n : Nat} (h : n < 1024) : fitU (n : Int) = n := by unfold fitU; rw [if_neg (by omega)]; simp
theorem crt_eta (c : Crt) : (⟨c.kind, c.block, c.view, c.round, c.height, c.author, c.sg, c.co⟩ : Crt) = c := rfl
theorem read_bytes (c : Crt) (rest : List UInt8) (h : mayV c = true) : readC (bytesV c ++ rest, 0) = (c, (rest, 0)) := by
  by_cases h0 : c.kind = 0
  · obtain rfl := may_zero h h0
    have e : bytesV zeroC ++ rest = encN (0 : Int).toNat ++ rest := by show encs [0] ++ rest = _; simp [encs]
    rw [e]
    obtain ⟨v0, s0⟩ := num_enc 0 rest ⟨by omega, by omega⟩
    have n1 : nS 1 (encN (0 : Int).toNat ++ rest, 0) = (rest, 0) := s0
    unfold readC
    rw [v0, n1]
    rfl
  by_cases h1 : c.kind = 1
  · obtain ⟨hs, q1, q2, q3⟩ := may_one h h1
    obtain ⟨p1, p2, p3, _, p4⟩ := sg_facts hs
    obtain ⟨l4, e4⟩ : ∃ l, l = encN (c.sg : Int).toNat ++ rest := ⟨_, rfl⟩
    obtain ⟨l3, e3⟩ : ∃ l, l = encN c.round.toNat ++ l4 := ⟨_, rfl⟩
    obtain ⟨l2, e2⟩ : ∃ l, l = encN c.view.toNat ++ l3 := ⟨_, rfl⟩
    obtain ⟨l1, e1⟩ : ∃ l, l = encN c.block.toNat ++ l2 := ⟨_, rfl⟩
    have e : bytesV c ++ rest = encN (1 : Int).toNat ++ l1 := by
      rw [e1, e2, e3, e4]; unfold bytesV numsV; rw [if_neg h0, if_pos h1]; simp [encs]
    rw [e]
    obtain ⟨v0, s0⟩ := num_enc 1 l1 ⟨by omega, by omega⟩
    obtain ⟨v1, s1⟩ := num_enc c.block l2 ⟨by omega, by omega⟩
    obtain ⟨v2, s2⟩ := num_enc c.view l3 ⟨by omega, by omega⟩
    obtain ⟨v3, s3⟩ := num_enc c.round l4 ⟨by omega, by omega⟩
    obtain ⟨v4, s4⟩ := num_enc (c.sg : Int) rest ⟨by omega, by omega⟩
    have n1 : nS 1 (encN (1 : Int).toNat ++ l1, 0) = (l1, 0) := s0
    have n2 : nS 2 (encN (1 : Int).toNat ++ l1, 0) = (l2, 0) := by show numS (nS 1 _) = _; rw [n1, e1, s1]
    have n3 : nS 3 (encN (1 : Int).toNat ++ l1, 0) = (l3, 0) := by show numS (nS 2 _) = _; rw [n2, e2, s2]
    have n4 : nS 4 (encN (1 : Int).toNat ++ l1, 0) = (l4, 0) := by show numS (nS 3 _) = _; rw [n3, e3, s3]
    have n5 : nS 5 (encN (1 : Int).toNat ++ l1, 0) = (rest, 0) := by show numS (nS 4 _) = _; rw [n4, e4, s4]
    rw [← e1] at v1
    rw [← e2] at v2
    rw [← e3] at v3
    rw [← e4] at v4
    unfold readC
    rw [v0, n1, n2, n3, n4, n5, v1, v2, v3, v4, fitV_small (n := 1) (by omega), if_pos rfl, fitV_small (n := c.block) (by omega), fitV_small (n := c.view) (by omega), fitV_small (n := c.round) (by omega), fitU_small p4]
    have := crt_eta c
    rw [h1, q1, q2, q3] at this
    rw [this]
  · obtain ⟨h2, hs, q1, q2, q3⟩ := may_two h h0 h1
    obtain ⟨p1, p2, p3, _, p4⟩ := sg_facts hs
    obtain ⟨l7, e7⟩ : ∃ l, l = encN (c.co : Int).toNat ++ rest := ⟨_, rfl⟩
    obtain ⟨l6, e6⟩ : ∃ l, l = encN c.author.toNat ++ l7 := ⟨_, rfl⟩
    obtain ⟨l5, e5⟩ : ∃ l, l = encN c.height.toNat ++ l6 := ⟨_, rfl⟩
    obtain ⟨l4, e4⟩ : ∃ l, l = encN (c.sg : Int).toNat ++ l5 := ⟨_, rfl⟩
    obtain ⟨l3, e3⟩ : ∃ l, l = encN c.round.toNat ++ l4 := ⟨_, rfl⟩
    obtain ⟨l2, e2⟩ : ∃ l, l = encN c.view.toNat ++ l3 := ⟨_, rfl⟩
    obtain ⟨l1, e1⟩ : ∃ l, l = encN c.block.toNat ++ l2 := ⟨_, rfl⟩
    have e : bytesV c ++ rest = encN (2 : Int).toNat ++ l1 := by
      rw [e1, e2, e3, e4, e5, e6, e7]; unfold bytesV numsV; rw [if_neg h0, if_neg h1]; simp [encs]
    rw [e]
    obtain ⟨v0, s0⟩ := num_enc 2 l1 ⟨by omega, by omega⟩
    obtain ⟨v1, s1⟩ := num_enc c.block l2 ⟨by omega, by omega⟩
    obtain ⟨v2, s2⟩ := num_enc c.view l3 ⟨by omega, by omega⟩
    obtain ⟨v3, s3⟩ := num_enc c.round l4 ⟨by omega, by omega⟩
    obtain ⟨v4, s4⟩ := num_enc (c.sg : Int) l5 ⟨by omega, by omega⟩
    obtain ⟨v5, s5⟩ := num_enc c.height l6 ⟨by omega, by omega⟩
    obtain ⟨v6, s6⟩ := num_enc c.author l7 ⟨by omega, by omega⟩
    obtain ⟨v7, s7⟩ := num_enc (c.co : Int) rest ⟨by omega, by omega⟩
    have n1 : nS 1 (encN (2 : Int).toNat ++ l1, 0) = (l1, 0) := s0
    have n2 : nS 2 (encN (2 : Int).toNat ++ l1, 0) = (l2, 0) := by show numS (nS 1 _) = _; rw [n1, e1, s1]
    have n3 : nS 3 (encN (2 : Int).toNat ++ l1, 0) = (l3, 0) := by show numS (nS 2 _) = _; rw [n2, e2, s2]
    have n4 : nS 4 (encN (2 : Int).toNat ++ l1, 0) = (l4, 0) := by show numS (nS 3 _) = _; rw [n3, e3, s3]
    have n5 : nS 5 (encN (2 : Int).toNat ++ l1, 0) = (l5, 0) := by show numS (nS 4 _) = _; rw [n4, e4, s4]
    have n6 : nS 6 (encN (2 : Int).toNat ++ l1, 0) = (l6, 0) := by show numS (nS 5 _) = _; rw [n5, e5, s5]
    have n7 : nS 7 (encN (2 : Int).toNat ++ l1, 0) = (l7, 0) := by show numS (nS 6 _) = _; rw [n6, e6, s6]
    have n8 : nS 8 (encN (2 : Int).toNat ++ l1, 0) = (rest, 0) := by show numS (nS 7 _) = _; rw [n7, e7, s7]
    rw [← e1] at v1
    rw [← e2] at v2
    rw [← e3] at v3
    rw [← e4] at v4
    rw [← e5] at v5
    rw [← e6] at v6
    rw [← e7] at v7
    unfold readC
    rw [v0, n1, n2, n3, n4, n5, n6, n7, n8, v1, v2, v3, v4, v5, v6, v7, fitV_small (n := 2) (by omega), if_neg (by decide), if_pos rfl, fitV_small (n := c.block) (by omega), fitV_small (n := c.view) (by omega), fitV_small (n := c.round) (by omega), fitV_small (n := c.height) (by omega), fitV_small (n := c.author) (by omega), fitU_small p4, fitU_small q3]
    have := crt_eta c
    rw [h2] at this
    rw [this]
theorem take_bytes (c : Crt) (rest : List UInt8) (h : mayV c = true) : takeC (bytesV c ++ rest, 0) = (c, (rest, 0)) := by
  unfold takeC
  rw [read_bytes c rest h]
  exact if_neg (fun hh => hh.elim (fun h1 => h1 rfl) (fun h1 => by rw [h] at h1; cases h1))
end Go.Proofs.YtgmejaiifibfoaaGreatDoor.L11
