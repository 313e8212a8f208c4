/-
  Certificates and statements as values: their cells, which are the same; which may be, what was signed.
-/
import Derived.Test.YtkjkkbionlmohaaL3
import Derived.Test.YtkjkkbionlmohaaL4
import Derived.Test.YtkjkkbionlmohaaParts
import Derived.Maps.OwnSet
import Derived.Maps.AppendAt
import Derived.DeepKeys5
import Derived.Laws.StructEq
import Derived.Laws.Tables
import Derived.Deep.RegionHeld3
import Derived.Deep.DeepCutAuto
import Derived.Deep.QuietTactic
import Derived.BigQuiet
import Derived.OrdersHeld
import Derived.StillTail
import Derived.StillTactics
set_option linter.unusedSimpArgs false
set_option linter.unusedVariables false
namespace Go.Proofs.Ytkjkkbionlmohaa
open Go.RowKit Go.Maps Go.Lib

theorem laidOut : laidOutB Try.prog = true := by kernel_rfl
def inI (n : Int) : Prop := -9223372036854775808 ≤ n ∧ n ≤ 9223372036854775807
def inU (n : Nat) : Prop := n < 4294967296
theorem inI.lit {n : Int} (h : inI n) : (Lit.int .i64 n).wf = true := WalkArith.wf_i64 h
theorem inU.lit {n : Nat} (h : inU n) : (Lit.int .u32 (n : Int)).wf = true := by
  unfold inU at h
  have h0 : IntKind.u32.min = 0 := rfl
  have h1 : IntKind.u32.max = 4294967295 := rfl
  simp only [Lit.wf, h0, h1, Bool.and_eq_true, decide_eq_true_eq]
  omega
/-- A certificate. -/
structure Crt where
  kind : Int
  block : Int
  view : Int
  round : Int
  height : Int
  author : Int
  sg : Nat
  co : Nat
deriving DecidableEq, Inhabited
/-- A statement's ten numbers. -/
structure Stm where
  a0 : Int
  a1 : Int
  a2 : Int
  a3 : Int
  a4 : Int
  a5 : Int
  a6 : Int
  a7 : Int
  a8 : Int
  a9 : Int
deriving DecidableEq, Inhabited
def zeroC : Crt := ⟨0, 0, 0, 0, 0, 0, 0, 0⟩
def zeroM : Stm := ⟨0, 0, 0, 0, 0, 0, 0, 0, 0, 0⟩
def crtL (c : Crt) : List Value := [.int .i64 c.kind, .int .i64 c.block, .int .i64 c.view, .int .i64 c.round, .int .i64 c.height, .int .i64 c.author, .int .u32 c.sg, .int .u32 c.co]
def crtC (c : Crt) : Array Value := #[.int .i64 c.kind, .int .i64 c.block, .int .i64 c.view, .int .i64 c.round, .int .i64 c.height, .int .i64 c.author, .int .u32 c.sg, .int .u32 c.co]
def stmL (s : Stm) : List Value := [.int .i64 s.a0, .int .i64 s.a1, .int .i64 s.a2, .int .i64 s.a3, .int .i64 s.a4, .int .i64 s.a5, .int .i64 s.a6, .int .i64 s.a7, .int .i64 s.a8, .int .i64 s.a9]
def stmC (s : Stm) : Array Value := #[.int .i64 s.a0, .int .i64 s.a1, .int .i64 s.a2, .int .i64 s.a3, .int .i64 s.a4, .int .i64 s.a5, .int .i64 s.a6, .int .i64 s.a7, .int .i64 s.a8, .int .i64 s.a9]
theorem crtC_eq (c : Crt) : (crtC c).toList = crtL c := rfl
theorem stmC_eq (s : Stm) : (stmC s).toList = stmL s := rfl
theorem crtC_ones (c : Crt) : (crtC c).all (·.oneCell') = true := by kernel_rfl
theorem stmC_ones (s : Stm) : (stmC s).all (·.oneCell') = true := by kernel_rfl
def Crt.wf (c : Crt) : Prop := inI c.kind ∧ inI c.block ∧ inI c.view ∧ inI c.round ∧ inI c.height ∧ inI c.author ∧ inU c.sg ∧ inU c.co
def Stm.wf (s : Stm) : Prop := inI s.a0 ∧ inI s.a1 ∧ inI s.a2 ∧ inI s.a3 ∧ inI s.a4 ∧ inI s.a5 ∧ inI s.a6 ∧ inI s.a7 ∧ inI s.a8 ∧ inI s.a9
theorem zeroC_wf : zeroC.wf := by refine ⟨?_, ?_, ?_, ?_, ?_, ?_, ?_, ?_⟩ <;> simp [inI, inU, zeroC]
theorem crtC_inj {x y : Crt} (h : crtC x = crtC y) : x = y := by
  obtain ⟨a0, a1, a2, a3, a4, a5, a6, a7⟩ := x
  obtain ⟨b0, b1, b2, b3, b4, b5, b6, b7⟩ := y
  simp only [crtC, Array.mk.injEq, List.cons.injEq, Value.int.injEq, true_and, and_true] at h
  obtain ⟨rfl, rfl, rfl, rfl, rfl, rfl, h6, h7⟩ := h
  obtain rfl : a6 = b6 := by omega
  obtain rfl : a7 = b7 := by omega
  rfl
theorem stmC_inj {x y : Stm} (h : stmC x = stmC y) : x = y := by
  obtain ⟨a0, a1, a2, a3, a4, a5, a6, a7, a8, a9⟩ := x
  obtain ⟨b0, b1, b2, b3, b4, b5, b6, b7, b8, b9⟩ := y
  simp only [stmC, Array.mk.injEq, List.cons.injEq, Value.int.injEq, true_and, and_true] at h
  obtain ⟨rfl, rfl, rfl, rfl, rfl, rfl, rfl, rfl, rfl, rfl⟩ := h
  rfl
theorem kdC : Keyed Try.prog 24 := Keyed.of_law (deep_law_laid laidOut (m := 3) (by omega) (of_decide_eq_true (by kernel_rfl)) (by kernel_rfl) (by kernel_rfl))
theorem kdM : Keyed Try.prog 31 := Keyed.of_law (deep_law_laid laidOut (m := 3) (by omega) (of_decide_eq_true (by kernel_rfl)) (by kernel_rfl) (by kernel_rfl))
theorem cC : Try.prog.cellsOf 24 = 8 := by kernel_rfl
theorem cM : Try.prog.cellsOf 31 = 10 := by kernel_rfl
theorem cI : Try.prog.cellsOf 3 = 1 := by kernel_rfl
theorem cU : Try.prog.cellsOf 22 = 1 := by kernel_rfl
theorem kl_int (d : Nat) {n : Int} (h : inI n) : Try.prog.keyLits (d + 1) 3 [.int .i64 n] = some [.int .i64 n] := by
  simp [Program.keyLits, Try.underlying3, h.lit]
theorem kl_u32 (d : Nat) {n : Nat} (h : inU n) : Try.prog.keyLits (d + 1) 22 [.int .u32 (n : Int)] = some [.int .u32 (n : Int)] := by
  simp [Program.keyLits, Try.underlying22, h.lit]
theorem kl_stm (d : Nat) (s : Stm) (h : s.wf) : ∃ l, Try.prog.keyLits (d + 2) 31 (stmL s) = some l := by
  obtain ⟨h0, h1, h2, h3, h4, h5, h6, h7, h8, h9⟩ := h
  unfold Program.keyLits
  simp only [Try.underlying31]
  rw [if_pos ⟨cM.symm ▸ rfl, by kernel_rfl⟩]
  simp only [cI, stmL, List.mapM_cons, List.mapM_nil, List.drop_zero, List.drop_succ_cons, List.take_succ_cons, List.take_zero, kl_int d h0, kl_int d h1, kl_int d h2, kl_int d h3, kl_int d h4, kl_int d h5, kl_int d h6, kl_int d h7, kl_int d h8, kl_int d h9]
  exact ⟨_, rfl⟩
theorem kl_crt (d : Nat) (c : Crt) (h : c.wf) : ∃ l, Try.prog.keyLits (d + 2) 24 (crtL c) = some l := by
  obtain ⟨h0, h1, h2, h3, h4, h5, h6, h7⟩ := h
  unfold Program.keyLits
  simp only [Try.underlying24]
  rw [if_pos ⟨cC.symm ▸ rfl, by kernel_rfl⟩]
  simp only [cI, cU, crtL, List.mapM_cons, List.mapM_nil, List.drop_zero, List.drop_succ_cons, List.take_succ_cons, List.take_zero, kl_int d h0, kl_int d h1, kl_int d h2, kl_int d h3, kl_int d h4, kl_int d h5, kl_u32 d h6, kl_u32 d h7]
  exact ⟨_, rfl⟩
theorem key_atC (x : Crt) (h : x.wf) : ∃ l, keyOf Try.prog 24 (.agg (crtC x)) = some l := by
  have hkt : Try.prog.keyType 24 = true := by kernel_rfl
  have hf : (Value.agg (crtC x)).formed Try.prog 24 = true := by kernel_rfl
  have hsz : 1 ≤ Try.prog.types.size := of_decide_eq_true (by kernel_rfl)
  obtain ⟨l, hl⟩ := kl_crt (Try.prog.types.size - 1) x h
  rw [show Try.prog.types.size - 1 + 2 = Try.prog.types.size + 1 by omega] at hl
  unfold keyOf
  simp only [Try.underlying24, hkt, hf, Bool.and_self, if_true, Value.cells, crtC_eq, hl, Option.map_some]
  exact ⟨_, rfl⟩
theorem key_atM (x : Stm) (h : x.wf) : ∃ l, keyOf Try.prog 31 (.agg (stmC x)) = some l := by
  have hkt : Try.prog.keyType 31 = true := by kernel_rfl
  have hf : (Value.agg (stmC x)).formed Try.prog 31 = true := by kernel_rfl
  have hsz : 1 ≤ Try.prog.types.size := of_decide_eq_true (by kernel_rfl)
  obtain ⟨l, hl⟩ := kl_stm (Try.prog.types.size - 1) x h
  rw [show Try.prog.types.size - 1 + 2 = Try.prog.types.size + 1 by omega] at hl
  unfold keyOf
  simp only [Try.underlying31, hkt, hf, Bool.and_self, if_true, Value.cells, stmC_eq, hl, Option.map_some]
  exact ⟨_, rfl⟩
theorem equalC {x y : Crt} (hx : x.wf) (hy : y.wf) (w : World) : (Op.equal 24 (.agg (crtC x)) (.agg (crtC y))).run Try.prog w = .ok (decide (x = y)) w := by
  obtain ⟨lx, h1⟩ := key_atC x hx
  obtain ⟨ly, h2⟩ := key_atC y hy
  obtain ⟨r, hr, hi⟩ := run_equal_deep (P := Try.prog) w (m := 3) (by omega) (by kernel_rfl) (by kernel_rfl) h1 h2
  have : r = decide (x = y) := by
    rw [Bool.eq_iff_iff, hi, decide_eq_true_eq]
    constructor
    · intro h
      rw [h] at h1
      exact crtC_inj (Value.agg.inj (kdC.inj h1 h2))
    · intro h; subst h; rw [h1] at h2; injection h2
  rw [hr, this]
theorem equalM {x y : Stm} (hx : x.wf) (hy : y.wf) (w : World) : (Op.equal 31 (.agg (stmC x)) (.agg (stmC y))).run Try.prog w = .ok (decide (x = y)) w := by
  obtain ⟨lx, h1⟩ := key_atM x hx
  obtain ⟨ly, h2⟩ := key_atM y hy
  obtain ⟨r, hr, hi⟩ := run_equal_deep (P := Try.prog) w (m := 3) (by omega) (by kernel_rfl) (by kernel_rfl) h1 h2
  have : r = decide (x = y) := by
    rw [Bool.eq_iff_iff, hi, decide_eq_true_eq]
    constructor
    · intro h
      rw [h] at h1
      exact stmC_inj (Value.agg.inj (kdM.inj h1 h2))
    · intro h; subst h; rw [h1] at h2; injection h2
  rw [hr, this]
theorem eqlC {x y : Crt} (hx : x.wf) (hy : y.wf) (w : World) : (binOp .eql 24 (.agg (crtC x)) (.agg (crtC y))).run Try.prog w = .ok (.bool (decide (x = y))) w := by
  simp only [binOp, Sem.run_bind, equalC hx hy, Result.andThen_ok, Sem.run_pure]
theorem neqC {x y : Crt} (hx : x.wf) (hy : y.wf) (w : World) : (binOp .neq 24 (.agg (crtC x)) (.agg (crtC y))).run Try.prog w = .ok (.bool (!decide (x = y))) w := by
  simp only [binOp, Sem.run_bind, equalC hx hy, Result.andThen_ok, Sem.run_pure]
theorem eqlM {x y : Stm} (hx : x.wf) (hy : y.wf) (w : World) : (binOp .eql 31 (.agg (stmC x)) (.agg (stmC y))).run Try.prog w = .ok (.bool (decide (x = y))) w := by
  simp only [binOp, Sem.run_bind, equalM hx hy, Result.andThen_ok, Sem.run_pure]
theorem neqM {x y : Stm} (hx : x.wf) (hy : y.wf) (w : World) : (binOp .neq 31 (.agg (stmC x)) (.agg (stmC y))).run Try.prog w = .ok (.bool (!decide (x = y))) w := by
  simp only [binOp, Sem.run_bind, equalM hx hy, Result.andThen_ok, Sem.run_pure]
theorem build_zero (w : World) : (Instr.build 24 #[]).run Try.prog w = .ok (.agg (crtC zeroC)) w := run_build w _ _ _ (by kernel_rfl)
theorem crtInfo : (Try.prog.info? 24).map (·.size) = some 8 := by kernel_rfl
theorem stmInfo : (Try.prog.info? 31).map (·.size) = some 10 := by kernel_rfl
/-- In w block g holds these eight. -/
def Box (w : World) (g : Nat) (c : Crt) : Prop :=
  w.cell? ⟨g, 0, none⟩ = some (.int .i64 c.kind) ∧ w.cell? ⟨g, 1, none⟩ = some (.int .i64 c.block) ∧ w.cell? ⟨g, 2, none⟩ = some (.int .i64 c.view) ∧ w.cell? ⟨g, 3, none⟩ = some (.int .i64 c.round) ∧ w.cell? ⟨g, 4, none⟩ = some (.int .i64 c.height) ∧ w.cell? ⟨g, 5, none⟩ = some (.int .i64 c.author) ∧ w.cell? ⟨g, 6, none⟩ = some (.int .u32 c.sg) ∧ w.cell? ⟨g, 7, none⟩ = some (.int .u32 c.co)
theorem box_of {w : World} {g : Nat} {ty : TypeId} {c : Crt} (h : L3.Blk w g ty (crtC c)) : Box w g c := ⟨h.cell 0, h.cell 1, h.cell 2, h.cell 3, h.cell 4, h.cell 5, h.cell 6, h.cell 7⟩
theorem box_new (w : World) (ty : TypeId) (c : Crt) : L3.Blk (w.alloc (.cells (crtC c) ty)) w.heap.size ty (crtC c) := L3.Blk.new _ _ _
/-- Behind a call the argument's block is as it was. -/
theorem box_at {w w1 : World} {ty : TypeId} {c : Crt} (hb : Below (w.alloc (.cells (crtC c) ty)).heap.size (w.alloc (.cells (crtC c) ty)) w1) : Box w1 w.heap.size c := box_of ((box_new w ty c).below hb (by simp))
theorem below_box {w : World} (ty : TypeId) (c : Crt) : Below w.heap.size w (w.alloc (.cells (crtC c) ty)) := (Below.refl _ _).alloc (Nat.le_refl _) _
theorem nxt {w w1 w2 : World} (h1 : Below w.heap.size w w1) (h2 : Below w1.heap.size w1 w2) : Below w.heap.size w w2 := h1.trans (h2.mono h1.size)
/-- A call that hands back v and leaves all that was there. -/
def gives (v : Value) (w : World) (e : Ending) (w' : World) : Prop := e = .returned v ∧ Below w.heap.size w w'
/-- An error, or none. -/
def errI (b : Bool) (k : Int) : Int := if b = true then 0 else k
/-- A struct that is handed back out of its block. -/
theorem results_row {P : Program} {fn : Func} {d : Tmp} {ty : TypeId} (h : fn.results = #[.cell d ty]) (tmps : Array Value) (w : World) (g : Nat) (hx : tmps.getD d undef = .pointer (some ⟨g, 0, none⟩)) (t : TypeId) (cs : Array Value) (fr : Nat × Nat) (ds : TypeDesc)
    (hb : w.heap[g]? = some (.cells cs t fr)) (hu : P.underlying ty = some ds) (hd : (match ds with | .struct _ | .array _ _ => true | _ => false) = true) (hi : (P.info? ty).map (·.size) = some cs.size) : (results fn tmps).run P w = .ok (.agg cs) w := by
  have hx' : tmps[d]?.getD undef = .pointer (some ⟨g, 0, none⟩) := by simpa using hx
  simp [results, h, hx', asAddr, run_loadVar_row w g t ty cs fr ds hb hu hd hi]
/-- A store of a whole struct into a block. -/
theorem wpList_store_row {P : Program} {ops : Array Oper} {rest : List Oper} {o : Oper} {a : Act} {w : World} {Q : Exit → Act → World → Prop} (hw : Region.wanted o (yielded ops a.tmps) = true) (ty : TypeId) (x y : Operand) (ho : o.op = .store ty x y) (g : Nat) (cells : Array Value) (hx : a.eval x = .pointer (some ⟨g, 0, none⟩)) (hy : a.eval y = .agg cells)
    (t : TypeId) (old : Array Value) (hb : L3.Blk w g t old) (hi : (P.info? ty).map (·.size) = some cells.size) (hold : old.size = cells.size) (h1 : cells.all (·.oneCell') = true)
    (h : wpList P ops Q rest (a.put o.dst undef) (w.setRow g cells)) : wpList P ops Q (o :: rest) a w :=
  wpList_wanted hw fun _ hK => wp_store_row ty x y ho g cells hx hy t old hb hi hold h1 (hK _ _ h)
theorem blk_setRow {w : World} {g : Nat} {t : TypeId} {old cs : Array Value} (h : L3.Blk w g t old) : L3.Blk (w.setRow g cs) g t cs := by
  unfold L3.Blk World.setRow at *
  simp [Array.getElem?_modify, h]
theorem blk_far {w : World} {g G : Nat} {t : TypeId} {cs ds : Array Value} (h : L3.Blk w g t cs) (hg : G ≠ g) : L3.Blk (w.setRow G ds) g t cs := by
  unfold L3.Blk World.setRow at *
  simp [Array.getElem?_modify, hg, h]
theorem below_setRow {B : Nat} {w W : World} {g : Nat} {cs : Array Value} (h : Below B w W) (hg : B ≤ g) : Below B w (W.setRow g cs) := by
  refine h.trans ⟨rfl, rfl, rfl, by simp [World.setRow], fun i hi => ?_⟩
  have : ¬ g = i := by omega
  simp [World.setRow, Array.getElem?_modify, this]
/-- A binary operation on structs. -/
theorem wpList_binop {P : Program} {ops : Array Oper} {rest : List Oper} {o : Oper} {a : Act} {w : World} {Q : Exit → Act → World → Prop} (hw : Region.wanted o (yielded ops a.tmps) = true) (op : BinOp) (t : TypeId) (x y : Operand) (u : TypeId) (ho : o.op = .binOp op t x y u) (xs ys : Array Value)
    (hx : a.eval x = .agg xs) (hy : a.eval y = .agg ys) (hm : P.eqGuardType P.depth t = false) {v : Value} (hrun : (binOp op t (.agg xs) (.agg ys)).run P w = .ok v w)
    (h : wpList P ops Q rest (a.put o.dst v) w) : wpList P ops Q (o :: rest) a w := by
  refine wpList_wanted hw fun _ hK => ?_
  unfold Oper.wp
  simp only [execOp, ho, hx, hy, Sem.run_bind, run_eqGuard_agg w op t x y xs ys hm, hrun, Result.andThen_ok, Sem.run_pure]
  exact hK _ _ h
/-- A callee that keeps what is held: what it hands back is known. -/
theorem wpQuiet_fn {P : Program} {ops : Array Oper} {S : World → Prop} {o : Oper} {rest : List Oper} {a : Act} {Qa : Act → Prop} (hg : Region.wanted o (yielded ops a.tmps) = true) (f : FuncId) (xs : Array Operand) (ts : Array TypeId)
    (ho : o.op = .call { callee := .value (.func f), args := xs, argTypes := ts }) (hc : ∀ args w, (callFunc f args).run P w = .ok (.enter f args) w) (args : List Value) (ha : xs.toList.map a.eval = args) {v : Value}
    (hv : ∀ x : WorldIn S, Calls P f args.toArray x.w fun e w' => e = .returned v ∧ S w')
    (h : wpQuiet P ops (fun w' => ∃ x : WorldIn S, w' = x.w) Qa rest (a.put o.dst v)) : wpQuiet P ops (fun w' => ∃ x : WorldIn S, w' = x.w) Qa (o :: rest) a := by
  refine wpQuiet_call hg f args.toArray (fun w => ?_) hv h
  have ha' : xs.map a.eval = args.toArray := by apply Array.toList_inj.1; rw [Array.toList_map]; exact ha
  simp [execOp, ho, resolve, invoke, Deferred.ofValue, hc, ← ha', Act.eval]

/-- From least to most? -/
def okW (n lo hi : Int) : Bool := decide (lo ≤ n ∧ n ≤ hi)
/-- Replicas alone? -/
def setV (n : Nat) : Bool := decide (n < 1024)
/-- May the numbers be those that all but the genesis have? -/
def sgV (c : Crt) : Bool := okW c.block 1 2147483647 && okW c.view 1 1048576 && okW c.round 1 1073741824 && !decide (c.sg = 0) && setV c.sg
/-- May it be one? -/
def mayV (c : Crt) : Bool :=
  if c.kind = 0 then decide (c = zeroC)
  else if c.kind = 1 then sgV c && decide (c.height = 0) && decide (c.author = 0) && decide (c.co = 0)
  else if c.kind = 2 then sgV c && okW c.height 1 3 && okW c.author 0 9 && setV c.co
  else false
/-- What was signed. -/
def stmV (c : Crt) : Stm :=
  if c.kind = 1 then ⟨2, c.block, c.view, c.round, 0, 0, 0, 0, 0, 0⟩
  else if c.kind = 2 then ⟨4, c.block, c.view, c.round, c.height, c.author, 0, 0, 0, 0⟩
  else zeroM
theorem stmV_wf {c : Crt} (h : c.wf) : (stmV c).wf := by
  obtain ⟨h0, h1, h2, h3, h4, h5, _, _⟩ := h
  have i0 : inI 0 := by unfold inI; omega
  have i2 : inI 2 := by unfold inI; omega
  have i4 : inI 4 := by unfold inI; omega
  unfold stmV
  split
  · exact ⟨i2, h1, h2, h3, i0, i0, i0, i0, i0, i0⟩
  · split
    · exact ⟨i4, h1, h2, h3, h4, h5, i0, i0, i0, i0⟩
    · exact ⟨i0, i0, i0, i0, i0, i0, i0, i0, i0, i0⟩
/-- Without sets. -/
def plainV (c : Crt) : Crt := { c with sg := 0, co := 0 }
theorem plainV_wf {c : Crt} (h : c.wf) : (plainV c).wf := ⟨h.1, h.2.1, h.2.2.1, h.2.2.2.1, h.2.2.2.2.1, h.2.2.2.2.2.1, by unfold inU plainV; simp, by unfold inU plainV; simp⟩
end Go.Proofs.Ytkjkkbionlmohaa
