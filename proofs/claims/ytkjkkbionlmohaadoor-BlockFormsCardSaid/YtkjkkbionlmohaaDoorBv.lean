/-
  Blocks and timeouts as values: their cells; lists of them as they lie in memory; which are the same.
-/
import Derived.Test.YtkjkkbionlmohaaDoorBlo
import Derived.Test.YtkjkkbionlmohaaDoorRd
set_option linter.unusedSimpArgs false
set_option linter.unusedVariables false
set_option maxRecDepth 10000
namespace Go.Proofs.YtkjkkbionlmohaaDoor
open Go.RowKit Go.Maps Go.Lib
open L3 (Blk Reads)
open L11 (Crt zeroC crtL crtC mayV bytesV Stm stmC)

def tmL (t : Tmo) : List Value := [.int .i64 t.signer, .int .i64 t.view, .int .i64 t.high.kind, .int .i64 t.high.block, .int .i64 t.high.view, .int .i64 t.high.round, .int .i64 t.high.height, .int .i64 t.high.author, .int .u32 t.high.sg, .int .u32 t.high.co]
def tmC (t : Tmo) : Array Value := #[.int .i64 t.signer, .int .i64 t.view, .int .i64 t.high.kind, .int .i64 t.high.block, .int .i64 t.high.view, .int .i64 t.high.round, .int .i64 t.high.height, .int .i64 t.high.author, .int .u32 t.high.sg, .int .u32 t.high.co]
theorem tmC_eq (t : Tmo) : (tmC t).toList = tmL t := rfl
theorem tmC_ones (t : Tmo) : (tmC t).all (·.oneCell') = true := by kernel_rfl
/-- A block's cells: P holds its proof, T its transactions. -/
def bloC (b : Blo) (P T : Value) : Array Value := #[.int .i64 b.view, .int .i64 b.round, .int .i64 b.height, .int .i64 b.author, .int .i64 b.par.kind, .int .i64 b.par.block, .int .i64 b.par.view, .int .i64 b.par.round, .int .i64 b.par.height, .int .i64 b.par.author, .int .u32 b.par.sg, .int .u32 b.par.co, P, T]
theorem bloC_ones (b : Blo) (A : Option Addr) (n c : Nat) (B : Option Addr) (m d : Nat) : (bloC b (.slice A n c) (.slice B m d)).all (·.oneCell') = true := by kernel_rfl
theorem tmInfo : (Tryd.prog.info? 43).map (·.size) = some 10 := by kernel_rfl
theorem bloInfo : (Tryd.prog.info? 28).map (·.size) = some 14 := by kernel_rfl
def Tmo.wf (t : Tmo) : Prop := inI t.signer ∧ inI t.view ∧ t.high.wf
theorem zeroT_wf : zeroT.wf := ⟨by unfold inI zeroT; simp, by unfold inI zeroT; simp, L11.zeroC_wf⟩
theorem tmC_inj {x y : Tmo} (h : tmC x = tmC y) : x = y := by
  obtain ⟨a0, a1, ⟨b0, b1, b2, b3, b4, b5, b6, b7⟩⟩ := x
  obtain ⟨c0, c1, ⟨d0, d1, d2, d3, d4, d5, d6, d7⟩⟩ := y
  simp only [tmC, Array.mk.injEq, List.cons.injEq, Value.int.injEq, true_and, and_true] at h
  obtain ⟨rfl, rfl, rfl, rfl, rfl, rfl, rfl, rfl, h6, h7⟩ := h
  obtain rfl : b6 = d6 := by omega
  obtain rfl : b7 = d7 := by omega
  rfl
theorem kdT : Keyed Tryd.prog 43 := Keyed.of_law (deep_law_laid laidOut (m := 4) (by omega) (of_decide_eq_true (by kernel_rfl)) (by kernel_rfl) (by kernel_rfl))
theorem cT : Tryd.prog.cellsOf 43 = 10 := by kernel_rfl
theorem kl_tmo (d : Nat) (t : Tmo) (h : t.wf) : ∃ l, Tryd.prog.keyLits (d + 3) 43 (tmL t) = some l := by
  obtain ⟨h0, h1, h2⟩ := h
  obtain ⟨lc, hc⟩ := L11.kl_crt d t.high h2
  have e0 := kl_int (d + 1) h0
  have e1 := kl_int (d + 1) h1
  unfold Program.keyLits
  simp only [Tryd.underlying43]
  rw [if_pos ⟨cT.symm ▸ rfl, by kernel_rfl⟩]
  have hcx : Tryd.prog.keyLits (d + 2) 24 [.int .i64 t.high.kind, .int .i64 t.high.block, .int .i64 t.high.view, .int .i64 t.high.round, .int .i64 t.high.height, .int .i64 t.high.author, .int .u32 t.high.sg, .int .u32 t.high.co] = some lc := hc
  simp only [cI, L11.cC, tmL, List.mapM_cons, List.mapM_nil, List.drop_zero, List.drop_succ_cons, List.take_succ_cons, List.take_zero, e0, e1, hcx]
  exact ⟨_, rfl⟩
theorem key_atT (x : Tmo) (h : x.wf) : ∃ l, keyOf Tryd.prog 43 (.agg (tmC x)) = some l := by
  have hkt : Tryd.prog.keyType 43 = true := by kernel_rfl
  have hf : (Value.agg (tmC x)).formed Tryd.prog 43 = true := by kernel_rfl
  have hsz : 2 ≤ Tryd.prog.types.size := of_decide_eq_true (by kernel_rfl)
  obtain ⟨l, hl⟩ := kl_tmo (Tryd.prog.types.size - 2) x h
  rw [show Tryd.prog.types.size - 2 + 3 = Tryd.prog.types.size + 1 by omega] at hl
  unfold keyOf
  simp only [Tryd.underlying43, hkt, hf, Bool.and_self, if_true, Value.cells, tmC_eq, hl, Option.map_some]
  exact ⟨_, rfl⟩
theorem equalT {x y : Tmo} (hx : x.wf) (hy : y.wf) (w : World) : (Op.equal 43 (.agg (tmC x)) (.agg (tmC y))).run Tryd.prog w = .ok (decide (x = y)) w := by
  obtain ⟨lx, h1⟩ := key_atT x hx
  obtain ⟨ly, h2⟩ := key_atT y hy
  obtain ⟨r, hr, hi⟩ := run_equal_deep (P := Tryd.prog) w (m := 4) (by omega) (by kernel_rfl) (by kernel_rfl) h1 h2
  have : r = decide (x = y) := by
    rw [Bool.eq_iff_iff, hi, decide_eq_true_eq]
    constructor
    · intro h
      rw [h] at h1
      exact tmC_inj (Value.agg.inj (kdT.inj h1 h2))
    · intro h; subst h; rw [h1] at h2; injection h2
  rw [hr, this]
theorem eqlT {x y : Tmo} (hx : x.wf) (hy : y.wf) (w : World) : (binOp .eql 43 (.agg (tmC x)) (.agg (tmC y))).run Tryd.prog w = .ok (.bool (decide (x = y))) w := by
  simp only [binOp, Sem.run_bind, equalT hx hy, Result.andThen_ok, Sem.run_pure]
theorem neqT {x y : Tmo} (hx : x.wf) (hy : y.wf) (w : World) : (binOp .neq 43 (.agg (tmC x)) (.agg (tmC y))).run Tryd.prog w = .ok (.bool (!decide (x = y))) w := by
  simp only [binOp, Sem.run_bind, equalT hx hy, Result.andThen_ok, Sem.run_pure]
theorem neqX {n : Nat} {x y : Txx} (hx : x.wf n) (hy : y.wf n) (hn : n ≤ maxLen) (w : World) : (binOp .neq 53 (.agg (txC x)) (.agg (txC y))).run Tryd.prog w = .ok (.bool (!decide (x = y))) w := by
  simp only [binOp, Sem.run_bind, equalX hx hy hn, Result.andThen_ok, Sem.run_pure]
/-- What a block's numbers and lists are bounded by. -/
structure Blo.wf (b : Blo) : Prop where
  view : inI b.view
  round : inI b.round
  height : inI b.height
  author : inI b.author
  par : b.par.wf
  proof : ∀ t ∈ b.proof, t.wf
  txs : ∀ t ∈ b.txs, t.wf 1000000
  np : b.proof.length ≤ 1000
  nt : b.txs.length ≤ 1000
theorem zeroB_wf : zeroB.wf := by
  refine ⟨?_, ?_, ?_, ?_, L11.zeroC_wf, ?_, ?_, ?_, ?_⟩ <;> simp [inI, zeroB]
/-- In w the slices P, T are the block's lists. -/
def Lies (w : World) (b : Blo) (P T : Value) : Prop :=
  ∃ A c B d, P = .slice A b.proof.length c ∧ T = .slice B b.txs.length d ∧ Rd tmL 10 w A b.proof ∧ Rd txL 7 w B b.txs
theorem Lies.below {w w' : World} {b : Blo} {P T : Value} (h : Lies w b P T) (hb : Below w.heap.size w w') : Lies w' b P T := by
  obtain ⟨A, c, B, d, h1, h2, h3, h4⟩ := h
  exact ⟨A, c, B, d, h1, h2, h3.below hb, h4.below hb⟩
theorem lies_zero (w : World) : Lies w zeroB (.slice none 0 0) (.slice none 0 0) := ⟨none, 0, none, 0, rfl, rfl, Rd.nil, Rd.nil⟩
theorem build_zeroB (w : World) : (Instr.build 28 #[]).run Tryd.prog w = .ok (.agg (bloC zeroB (.slice none 0 0) (.slice none 0 0))) w := run_build w _ _ _ (by kernel_rfl)
theorem blo_new (w : World) (ty : TypeId) (b : Blo) (P T : Value) : Blk (w.alloc (.cells (bloC b P T) ty)) w.heap.size ty (bloC b P T) := Blk.new _ _ _
theorem tmo_new (w : World) (ty : TypeId) (t : Tmo) : Blk (w.alloc (.cells (tmC t) ty)) w.heap.size ty (tmC t) := Blk.new _ _ _
theorem below_new (w : World) (o : Obj) : Below w.heap.size w (w.alloc o) := (Below.refl _ _).alloc (Nat.le_refl _) o
/-- The cells of a certificate in a block that holds a struct with it from place k on. -/
theorem sub_cells {w : World} {g : Nat} {ty : TypeId} {cs : Array Value} {c : Crt} {k : Nat} (h : Blk w g ty cs) (hk : ∀ j u, (crtL c)[j]? = some u → cs[k + j]? = some u) : ∀ j u, (crtL c)[j]? = some u → w.cell? ((⟨g, k, none⟩ : Addr).add j) = some u := by
  intro j u hj
  have h1 := hk j u hj
  have h2 := h.cell (k + j)
  have e : (⟨g, k, none⟩ : Addr).add j = ⟨g, k + j, none⟩ := by unfold Addr.add; split <;> simp_all
  rw [e, h2]
  exact h1
theorem par_at (b : Blo) (P T : Value) : ∀ j u, (crtL b.par)[j]? = some u → (bloC b P T)[4 + j]? = some u := by
  intro j u hj
  have hl : j < 8 := by
    rcases Nat.lt_or_ge j 8 with h | h
    · exact h
    · rw [List.getElem?_eq_none (by exact h)] at hj; cases hj
  obtain rfl | rfl | rfl | rfl | rfl | rfl | rfl | rfl : j = 0 ∨ j = 1 ∨ j = 2 ∨ j = 3 ∨ j = 4 ∨ j = 5 ∨ j = 6 ∨ j = 7 := by omega
  all_goals exact hj
theorem high_at (t : Tmo) : ∀ j u, (crtL t.high)[j]? = some u → (tmC t)[2 + j]? = some u := by
  intro j u hj
  have hl : j < 8 := by
    rcases Nat.lt_or_ge j 8 with h | h
    · exact h
    · rw [List.getElem?_eq_none (by exact h)] at hj; cases hj
  obtain rfl | rfl | rfl | rfl | rfl | rfl | rfl | rfl : j = 0 ∨ j = 1 ∨ j = 2 ∨ j = 3 ∨ j = 4 ∨ j = 5 ∨ j = 6 ∨ j = 7 := by omega
  all_goals exact hj
end Go.Proofs.YtkjkkbionlmohaaDoor
