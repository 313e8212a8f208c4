/-
  Shares and statements as values: their cells, which are the same, what a share reads as where it is a map's key.
-/
import Derived.Test.YtjkfogjhakcnfaaDoorRefSets
import Derived.Test.YtjkfogjhakcnfaaDoorParts
import Derived.Maps.OwnSet
import Derived.Maps.AppendAt
import Derived.DeepKeys5
import Derived.Laws.StructEq
import Derived.Laws.Tables
set_option linter.unusedSimpArgs false
set_option linter.unusedVariables false
namespace Go.Proofs.YtjkfogjhakcnfaaDoor
open Go.RowKit Go.Maps

theorem laidOut : laidOutB Tryd.prog = true := by kernel_rfl
/-- A statement's ten numbers. -/
structure Stm where
  a0 : Int
  a1 : Int
  a2 : Int
  a3 : Int
  a4 : Int
  a5 : Int
  a6 : Int
  a7 : Int
  a8 : Int
  a9 : Int
deriving DecidableEq, Inhabited
/-- A share: its signer and its statement. -/
structure Shr where
  k : Int
  s : Stm
deriving DecidableEq, Inhabited
def stmL (s : Stm) : List Value := [.int .i64 s.a0, .int .i64 s.a1, .int .i64 s.a2, .int .i64 s.a3, .int .i64 s.a4, .int .i64 s.a5, .int .i64 s.a6, .int .i64 s.a7, .int .i64 s.a8, .int .i64 s.a9]
def shrL (x : Shr) : List Value := .int .i64 x.k :: stmL x.s
def stmC (s : Stm) : Array Value := #[.int .i64 s.a0, .int .i64 s.a1, .int .i64 s.a2, .int .i64 s.a3, .int .i64 s.a4, .int .i64 s.a5, .int .i64 s.a6, .int .i64 s.a7, .int .i64 s.a8, .int .i64 s.a9]
def shrC (x : Shr) : Array Value := #[.int .i64 x.k, .int .i64 x.s.a0, .int .i64 x.s.a1, .int .i64 x.s.a2, .int .i64 x.s.a3, .int .i64 x.s.a4, .int .i64 x.s.a5, .int .i64 x.s.a6, .int .i64 x.s.a7, .int .i64 x.s.a8, .int .i64 x.s.a9]
theorem stmC_eq (s : Stm) : (stmC s).toList = stmL s := rfl
theorem shrC_eq (x : Shr) : (shrC x).toList = shrL x := rfl
def inI (n : Int) : Prop := -9223372036854775808 ≤ n ∧ n ≤ 9223372036854775807
def Stm.wf (s : Stm) : Prop := inI s.a0 ∧ inI s.a1 ∧ inI s.a2 ∧ inI s.a3 ∧ inI s.a4 ∧ inI s.a5 ∧ inI s.a6 ∧ inI s.a7 ∧ inI s.a8 ∧ inI s.a9
def Shr.wf (x : Shr) : Prop := inI x.k ∧ x.s.wf
theorem inI.lit {n : Int} (h : inI n) : (Lit.int .i64 n).wf = true := WalkArith.wf_i64 h
theorem shrC_inj {x y : Shr} (h : shrC x = shrC y) : x = y := by
  obtain ⟨k, ⟨a0, a1, a2, a3, a4, a5, a6, a7, a8, a9⟩⟩ := x
  obtain ⟨k', ⟨b0, b1, b2, b3, b4, b5, b6, b7, b8, b9⟩⟩ := y
  simp only [shrC, Array.mk.injEq, List.cons.injEq, Value.int.injEq, true_and, and_true] at h
  obtain ⟨rfl, rfl, rfl, rfl, rfl, rfl, rfl, rfl, rfl, rfl, rfl⟩ := h
  rfl
theorem one_shrL (x : Shr) : ∀ u ∈ shrL x, u.oneCell' = true := by
  intro u hu
  simp only [shrL, stmL, List.mem_cons, List.not_mem_nil, or_false] at hu
  rcases hu with rfl | rfl | rfl | rfl | rfl | rfl | rfl | rfl | rfl | rfl | rfl <;> rfl

theorem kdS : Keyed Tryd.prog 53 := Keyed.of_law (deep_law_laid laidOut (m := 3) (by omega) (of_decide_eq_true (by kernel_rfl)) (by kernel_rfl) (by kernel_rfl))
theorem cS : Tryd.prog.cellsOf 53 = 11 := by kernel_rfl
theorem cM : Tryd.prog.cellsOf 50 = 10 := by kernel_rfl
theorem cI : Tryd.prog.cellsOf 3 = 1 := by kernel_rfl
theorem kl_int (d : Nat) {n : Int} (h : inI n) : Tryd.prog.keyLits (d + 1) 3 [.int .i64 n] = some [.int .i64 n] := by
  simp [Program.keyLits, Tryd.underlying3, h.lit]
theorem kl_stm (d : Nat) (s : Stm) (h : s.wf) : Tryd.prog.keyLits (d + 2) 50 (stmL s) = some [.int .i64 s.a0, .int .i64 s.a1, .int .i64 s.a2, .int .i64 s.a3, .int .i64 s.a4, .int .i64 s.a5, .int .i64 s.a6, .int .i64 s.a7, .int .i64 s.a8, .int .i64 s.a9] := by
  obtain ⟨h0, h1, h2, h3, h4, h5, h6, h7, h8, h9⟩ := h
  unfold Program.keyLits
  simp only [Tryd.underlying50]
  rw [if_pos ⟨cM.symm ▸ rfl, by kernel_rfl⟩]

  simp only [cI, stmL, List.mapM_cons, List.mapM_nil, List.drop_zero, List.drop_succ_cons, List.take_succ_cons, List.take_zero, kl_int d h0, kl_int d h1, kl_int d h2, kl_int d h3, kl_int d h4, kl_int d h5, kl_int d h6, kl_int d h7, kl_int d h8, kl_int d h9]
  rfl
theorem kl_shr (d : Nat) (x : Shr) (h : x.wf) : ∃ l, Tryd.prog.keyLits (d + 3) 53 (shrL x) = some l := by
  obtain ⟨h0, h1⟩ := h
  unfold Program.keyLits
  simp only [Tryd.underlying53]
  rw [if_pos ⟨cS.symm ▸ rfl, by kernel_rfl⟩]
  have e : List.take 10 (stmL x.s) = stmL x.s := rfl
  simp only [cI, cM, shrL, List.mapM_cons, List.mapM_nil, List.drop_zero, List.drop_succ_cons, List.take_succ_cons, List.take_zero, e, kl_int (d + 1) h0, kl_stm d x.s h1]
  exact ⟨_, rfl⟩
theorem key_at (x : Shr) (h : x.wf) : ∃ l, keyOf Tryd.prog 53 (.agg (shrC x)) = some l := by
  have hkt : Tryd.prog.keyType 53 = true := by kernel_rfl
  have hf : (Value.agg (shrC x)).formed Tryd.prog 53 = true := by kernel_rfl
  have hsz : 2 ≤ Tryd.prog.types.size := of_decide_eq_true (by kernel_rfl)
  obtain ⟨l, hl⟩ := kl_shr (Tryd.prog.types.size - 2) x h
  rw [show Tryd.prog.types.size - 2 + 3 = Tryd.prog.types.size + 1 by omega] at hl
  unfold keyOf
  simp only [Tryd.underlying53, hkt, hf, Bool.and_self, if_true, Value.cells, shrC_eq, hl, Option.map_some]
  exact ⟨_, rfl⟩
/-- What a share reads as, where it is a key. -/
noncomputable def keyS (x : Shr) : Lit := (keyOf Tryd.prog 53 (.agg (shrC x))).getD (.bool false)
theorem key_is (x : Shr) (h : x.wf) : keyOf Tryd.prog 53 (.agg (shrC x)) = some (keyS x) := by
  obtain ⟨l, hl⟩ := key_at x h
  rw [keyS, hl]; rfl
theorem keyS_inj {x y : Shr} (hx : x.wf) (hy : y.wf) (h : keyS x = keyS y) : x = y := by
  have h1 := key_is x hx
  rw [h] at h1
  have := kdS.inj h1 (key_is y hy)
  injection this with this
  exact shrC_inj this
/-- The map's datum D has just the shares of L. -/
def FitsS (D : DataW Unit) (L : List Shr) : Prop := ∀ x : Shr, x.wf → Maps.has D (keyS x) = decide (x ∈ L)
theorem FitsS.nil : FitsS (.map []) [] := fun x _ => by rfl
theorem FitsS.put {D : DataW Unit} {L : List Shr} {x : Shr} (h : FitsS D L) (hm : Maps.IsMap D) (hx : x.wf) (d : DataW Unit) : FitsS (D.put (keyS x) d) (L ++ [x]) := by
  intro y hy
  by_cases he : x = y
  · subst he
    rw [Maps.has_put_same hm (kdS.key (key_is x hx))]
    simp
  · rw [Maps.has_put_other (fun h' => he (keyS_inj hx hy (by first | exact h' | exact h'.symm))), h y hy]
    have : ¬ y = x := fun e => he e.symm
    simp [this]

/-- A statement inside its share's block. -/
theorem stm_in {W : World} {g : Nat} {t : TypeId} {x : Shr} (h : Blk W g t (shrC x)) : ∀ j v, (stmL x.s)[j]? = some v → W.cell? ((⟨g, 1, none⟩ : Addr).add j) = some v := by
  intro j v hj
  have hadd : (⟨g, 1, none⟩ : Addr).add j = ⟨g, 1 + j, none⟩ := by unfold Addr.add; split <;> simp_all
  rw [hadd, h.cell (1 + j), Nat.add_comm]
  have : (shrL x)[j + 1]? = some v := by rw [shrL, List.getElem?_cons_succ]; exact hj
  rw [← shrC_eq] at this
  simpa using this
theorem zeroU (w : World) : (zeroValue 81).run Tryd.prog w = .ok (.agg #[]) w := by kernel_rfl
theorem build_shr (k : Int) (s : Stm) (w : World) : (Instr.build 53 #[(0, .int .i64 k), (1, .agg (stmC s))]).run Tryd.prog w = .ok (.agg (shrC ⟨k, s⟩)) w := run_build w _ _ _ (by kernel_rfl)
theorem build_unit (w : World) : (Instr.build 81 #[]).run Tryd.prog w = .ok (.agg #[]) w := run_build w _ _ _ (by kernel_rfl)
theorem shrInfo : (Tryd.prog.info? 53).map (fun i => (i.zero, i.size, i.bytes)) = some (some (.agg #[.int .i64 0, .int .i64 0, .int .i64 0, .int .i64 0, .int .i64 0, .int .i64 0, .int .i64 0, .int .i64 0, .int .i64 0, .int .i64 0, .int .i64 0]), 11, 88) := by kernel_rfl
theorem slice_shr (x : Shr) (w : World) : (Instr.buildSlice 37 1 #[(0, .agg (shrC x))]).run Tryd.prog w = .ok (.slice (some ⟨w.heap.size, 0, none⟩) 1 1) (w.alloc (.cells (shrC x) 53)) := by kernel_rfl
theorem slice_none (w : World) : (Instr.buildSlice 37 0 #[]).run Tryd.prog w = .ok (.slice (some ⟨w.heap.size, 0, none⟩) 0 0) (w.alloc (.cells #[] 53)) := by kernel_rfl
theorem reads_blk {w : World} {b : Nat} {x : Shr} {e : TypeId} (h : Blk w b e (shrC x)) : Reads w (b + 1) 11 (some ⟨b, 0, none⟩) 1 (shrL x) := by
  refine ⟨rfl, fun _ => ⟨_, rfl, by simp, fun j v hj => ?_⟩⟩
  have hadd : (⟨b, 0, none⟩ : Addr).add j = ⟨b, j, none⟩ := by unfold Addr.add; split <;> simp_all
  rw [hadd, h.cell j, ← shrC_eq] at *
  simpa using hj
/-- A block that holds one share, read as a slice. -/
theorem reads_shr (w : World) (x : Shr) (e : TypeId) : Reads (w.alloc (.cells (shrC x) e)) (w.heap.size + 1) 11 (some ⟨w.heap.size, 0, none⟩) 1 (shrL x) := by
  refine ⟨rfl, fun _ => ⟨_, rfl, by simp, fun j v hj => ?_⟩⟩
  have hadd : (⟨w.heap.size, 0, none⟩ : Addr).add j = ⟨w.heap.size, j, none⟩ := by unfold Addr.add; split <;> simp_all
  rw [hadd, (Blk.new w e (shrC x)).cell j, ← shrC_eq] at *
  simpa using hj
theorem stmC_inj {x y : Stm} (h : stmC x = stmC y) : x = y := by
  obtain ⟨a0, a1, a2, a3, a4, a5, a6, a7, a8, a9⟩ := x
  obtain ⟨b0, b1, b2, b3, b4, b5, b6, b7, b8, b9⟩ := y
  simp only [stmC, Array.mk.injEq, List.cons.injEq, Value.int.injEq, true_and, and_true] at h
  obtain ⟨rfl, rfl, rfl, rfl, rfl, rfl, rfl, rfl, rfl, rfl⟩ := h
  rfl
theorem kdM : Keyed Tryd.prog 50 := Keyed.of_law (deep_law_laid laidOut (m := 3) (by omega) (of_decide_eq_true (by kernel_rfl)) (by kernel_rfl) (by kernel_rfl))
theorem key_atM (x : Stm) (h : x.wf) : ∃ l, keyOf Tryd.prog 50 (.agg (stmC x)) = some l := by
  have hkt : Tryd.prog.keyType 50 = true := by kernel_rfl
  have hf : (Value.agg (stmC x)).formed Tryd.prog 50 = true := by kernel_rfl
  have hsz : 1 ≤ Tryd.prog.types.size := of_decide_eq_true (by kernel_rfl)
  have hl := kl_stm (Tryd.prog.types.size - 1) x h
  rw [show Tryd.prog.types.size - 1 + 2 = Tryd.prog.types.size + 1 by omega] at hl
  unfold keyOf
  simp only [Tryd.underlying50, hkt, hf, Bool.and_self, if_true, Value.cells, stmC_eq, hl, Option.map_some]
  exact ⟨_, rfl⟩
theorem equalS {x y : Shr} (hx : x.wf) (hy : y.wf) (w : World) : (Op.equal 53 (.agg (shrC x)) (.agg (shrC y))).run Tryd.prog w = .ok (decide (x = y)) w := by
  obtain ⟨r, hr, hi⟩ := run_equal_deep (P := Tryd.prog) w (m := 3) (by omega) (by kernel_rfl) (by kernel_rfl) (key_is x hx) (key_is y hy)
  have : r = decide (x = y) := by
    rw [Bool.eq_iff_iff, hi, decide_eq_true_eq]
    exact ⟨fun h => keyS_inj hx hy h, fun h => by rw [h]⟩
  rw [hr, this]
theorem equalM {x y : Stm} (hx : x.wf) (hy : y.wf) (w : World) : (Op.equal 50 (.agg (stmC x)) (.agg (stmC y))).run Tryd.prog w = .ok (decide (x = y)) w := by
  obtain ⟨lx, h1⟩ := key_atM x hx
  obtain ⟨ly, h2⟩ := key_atM y hy
  obtain ⟨r, hr, hi⟩ := run_equal_deep (P := Tryd.prog) w (m := 3) (by omega) (by kernel_rfl) (by kernel_rfl) h1 h2
  have : r = decide (x = y) := by
    rw [Bool.eq_iff_iff, hi, decide_eq_true_eq]
    constructor
    · intro h
      rw [h] at h1
      have := kdM.inj h1 h2
      injection this with this
      exact stmC_inj this
    · intro h; subst h; rw [h1] at h2; injection h2
  rw [hr, this]
theorem eqlS {x y : Shr} (hx : x.wf) (hy : y.wf) (w : World) : (binOp .eql 53 (.agg (shrC x)) (.agg (shrC y))).run Tryd.prog w = .ok (.bool (decide (x = y))) w := by
  simp only [binOp, Sem.run_bind, equalS hx hy, Result.andThen_ok, Sem.run_pure]
theorem neqS {x y : Shr} (hx : x.wf) (hy : y.wf) (w : World) : (binOp .neq 53 (.agg (shrC x)) (.agg (shrC y))).run Tryd.prog w = .ok (.bool (!decide (x = y))) w := by
  simp only [binOp, Sem.run_bind, equalS hx hy, Result.andThen_ok, Sem.run_pure]
theorem neqM {x y : Stm} (hx : x.wf) (hy : y.wf) (w : World) : (binOp .neq 50 (.agg (stmC x)) (.agg (stmC y))).run Tryd.prog w = .ok (.bool (!decide (x = y))) w := by
  simp only [binOp, Sem.run_bind, equalM hx hy, Result.andThen_ok, Sem.run_pure]
end Go.Proofs.YtjkfogjhakcnfaaDoor
