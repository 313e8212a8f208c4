/-
  Places that an iterator gives, collected into a slice of the call's own: the yield, AppendSeq, Collect.
-/
import Derived.Test.YthkgadjiiapfgaaGreatDoorSorted
import Derived.Shelf.SlIter.Sorted
set_option linter.unusedSimpArgs false
set_option linter.unusedVariables false
set_option maxRecDepth 10000
namespace Go.Proofs.YthkgadjiiapfgaaGreatDoor
open Go.RowKit Go.Maps Go.Lib Go.Proofs

/-! Structs inside a fence -/
section
variable {F : Fence} {n : Nat} {P : Program} {ops : Array Oper} {rest : List Oper} {o : Oper} {a : Act} {w w' : World} {Q : Exit → Act → World → Prop}
theorem wpListIn_value (hg : o.guard = none) (hd : ∀ c, o.op ≠ .defer c) (hab : o.about P w a.eval = none) {v : Value} (hrun : (execOp a.eval o).run P w = .ok (.value v) w') (h : wpListIn F n P ops Q rest (a.put o.dst v) w') : wpListIn F n P ops Q (o :: rest) a w := by
  refine wpListIn_plain hg fun K hK => ?_
  unfold Oper.wpIn
  refine ⟨fun f hf => (by rw [hab] at hf; cases hf), ?_⟩
  rw [Oper.semAt_plain F _ _ hd, hrun]
  exact hK _ _ h
theorem wpListIn_row_at (hg : o.guard = none) (ty : TypeId) (x : Operand) (ho : o.op = .load ty x) (hab : o.about P w a.eval = none)
    (g : Nat) (hx : a.eval x = .pointer (some ⟨g, 0, none⟩)) (t : TypeId) (cs : Array Value) (fr : Nat × Nat) (d : TypeDesc) (hb : w.heap[g]? = some (.cells cs t fr))
    (hu : P.underlying ty = some d) (hd : (match d with | .struct _ | .array _ _ => true | _ => false) = true) (hi : (P.info? ty).map (·.size) = some cs.size)
    (h : wpListIn F n P ops Q rest (a.put o.dst (.agg cs)) w) : wpListIn F n P ops Q (o :: rest) a w := by
  refine wpListIn_value hg (fun c => by rw [ho]; intro e; cases e) hab ?_ h
  unfold execOp
  simp only [ho, hx, Instr.loadAt, Instr.sureAddr, Sem.run_bind, Sem.run_pure, Result.andThen_ok, run_loadVar_row w g t ty cs fr d hb hu hd hi]
theorem wpListIn_store_new (hg : o.guard = none) (ty : TypeId) (x y : Operand) (ho : o.op = .store ty x y) (w0 : World) (cells : Array Value) (t : TypeId) (old : Array Value) (hab : o.about P (w0.alloc (.cells old t)) a.eval = none) (hx : a.eval x = .pointer (some ⟨w0.heap.size, 0, none⟩)) (hy : a.eval y = .agg cells)
    (hi : (P.info? ty).map (·.size) = some cells.size) (hold : old.size = cells.size) (h1 : cells.all (·.oneCell') = true)
    (h : wpListIn F n P ops Q rest (a.put o.dst undef) (w0.alloc (.cells cells t))) : wpListIn F n P ops Q (o :: rest) a (w0.alloc (.cells old t)) := by
  refine wpListIn_plain hg fun K hK => ?_
  unfold Oper.wpIn
  refine ⟨fun f hf => (by rw [hab] at hf; cases hf), ?_⟩
  rw [Oper.semAt_plain F _ _ (fun c => by rw [ho]; intro e; cases e)]
  unfold execOp
  simp only [ho, hx, hy, Instr.storeAt, Instr.sureAddr, Sem.run_bind, Sem.run_pure, Result.andThen_ok, run_storeVar_row (w0.alloc (.cells old t)) w0.heap.size t ty old cells (heap_alloc_new w0 _) hi hold h1]
  rw [setRow_new]
  exact hK _ _ h
theorem wpListIn_buildSlice (hg : o.guard = none) (t : TypeId) (k : Nat) (parts : Array (Nat × Operand)) (ho : o.op = .buildSlice t k parts) (hab : o.about P w a.eval = none) (ps : Array (Nat × Value))
    (hp : (parts.toList.map fun p => (p.1, a.eval p.2)) = ps.toList) {v : Value} (hrun : (Instr.buildSlice t k ps).run P w = .ok v w')
    (h : wpListIn F n P ops Q rest (a.put o.dst v) w') : wpListIn F n P ops Q (o :: rest) a w := by
  have hp' : (parts.map fun p => (p.1, a.eval p.2)) = ps := by apply Array.toList_inj.1; rw [Array.toList_map]; exact hp
  subst hp'
  refine wpListIn_value hg (fun c => by rw [ho]; intro e; cases e) hab ?_ h
  simp only [execOp, ho, Sem.run_bind, hrun, Result.andThen_ok, Sem.run_pure]
end
theorem slice_plc (p : Plc) (w : World) : (Instr.buildSlice 93 1 #[(0, .agg (plcC p))]).run Tryz.prog w = .ok (.slice (some ⟨w.heap.size, 0, none⟩) 1 1) (w.alloc (.cells (plcC p) 68)) := by kernel_rfl
theorem info_plc : (Tryz.prog.info? 68).map (·.size) = some 2 := by kernel_rfl
def zeroP : Array Value := #[.string ⟨#[]⟩, .string ⟨#[]⟩]
def valP (p : Plc) : Value := .agg (plcC p)

/-! The loop over an iterator -/
def asgP : Code := Code.region 2 #[{ dst := some 5, op := Op.alloc 68, type := 0, pos := "iter.go:51", after := #[], guard := none }, { dst := none, op := Op.store 68 (Operand.tmp 5) (Operand.tmp 7), type := 0, pos := "iter.go:51", after := #[{ on := 0, ground := Ground.data }, { on := 0, ground := Ground.phase }], guard := none }] false
def bodP : Code := Code.block 1 (Code.region 3
  #[{ dst := some 8, op := Op.load 93 (Operand.tmp 2), type := 93, pos := "iter.go:52", after := #[], guard := none },
    { dst := some 9, op := Op.load 68 (Operand.tmp 5), type := 68, pos := "iter.go:52", after := #[], guard := none },
    { dst := some 10, op := Op.buildSlice 93 1 #[(0, Operand.tmp 9)], type := 93, pos := "iter.go:52", after := #[{ on := 1, ground := Ground.data }], guard := none },
    { dst := some 11, op := Op.call { callee := Callee.builtin Builtin.append, args := #[Operand.tmp 8, Operand.tmp 10], argTypes := #[93, 93] }, type := 93, pos := "iter.go:52", after := #[{ on := 0, ground := Ground.data }, { on := 2, ground := Ground.data }], guard := none },
    { dst := none, op := Op.store 93 (Operand.tmp 2) (Operand.tmp 11), type := 0, pos := "iter.go:52", after := #[{ on := 3, ground := Ground.data }, { on := 3, ground := Ground.chain }, { on := 0, ground := Ground.phase }, { on := 1, ground := Ground.phase }, { on := 2, ground := Ground.phase }, { on := 3, ground := Ground.phase }], guard := none }] false)
/-- The loop's record, in state st. -/
def loopP (fn : FuncId) (sv : Value) (Bs D : Nat) (st : LoopState) (pend : Option Code) : Loop :=
  { state := st, pending := pend, fn, tmps := #[.slice none 0 0, sv, .pointer (some ⟨Bs, 0, none⟩), undef, .slice none 0 0, undef, sv, undef, undef, undef, undef, undef, undef], params := #[7], assign := asgP, body := bodP, defers := D }
/-- Between two rounds: what has come stands in a row of the call's own. -/
structure MidP (w0 : World) (fn : FuncId) (sv : Value) (Bs l D : Nat) (ss : List Plc) (W : World) : Prop where
  box : ∃ v, W.heap[Bs]? = some (.cells #[v] 93 (0, 0)) ∧ W.ownsRow w0.heap.size 68 2 v ss.length (ss.flatMap plcL)
  loop : W.heap[l]? = some (.loop (loopP fn sv Bs D .ready none))
  def0 : W.heap[D]? = some (.deferred (some []))
  below : Below w0.heap.size w0 W
theorem mid_abides (w0 : World) (fn : FuncId) (sv : Value) (Bs l D B : Nat) (hB : w0.heap.size ≤ B) : AbidesFrom B (MidP w0 fn sv Bs l D) := fun s W W' row h hg hrow => by
  have hrow' : ∀ r, row = some r → ∃ o : Obj, W.heap[r]? = some o ∧ o.isWalk = true := fun r e => (hrow r e).2
  obtain ⟨v, hv, hr⟩ := h.box
  exact ⟨⟨v, (grownBy_keeps hg hrow' hv rfl).trans hv, ownsRow_abides_a hr hg hrow'⟩, (grownBy_keeps hg hrow' h.loop rfl).trans h.loop, (grownBy_keeps hg hrow' h.def0 rfl).trans h.def0,
    h.below.grown hg h.below.size (fun k e => Nat.le_trans hB (hrow k e).1)⟩
/-- A block's cells, at its beginning. -/
theorem blk_cells (w : World) (g : Nat) (T : TypeId) (cs : List Value) {fr : Nat × Nat} (h : w.heap[g]? = some (.cells cs.toArray T fr)) : ∀ j u, cs[j]? = some u → w.cell? ((⟨g, 0, none⟩ : Addr).add j) = some u := by
  intro j u hj
  unfold Addr.add
  split
  · next h0 => subst h0; simpa [World.cell?, h] using hj
  · simpa [World.cell?, h] using hj
theorem ty_ne : 93 ≠ 68 := by decide
set_option maxRecDepth 100000 in
set_option maxHeartbeats 2000000 in
theorem yieldP (F : Fence) (m : Nat) (w0 : World) (fn : FuncId) (hfn : F.fn fn) (sv : Value) (Bs l D : Nat) (hBl : Bs ≠ l) (hDl : D ≠ l) (hDB : D ≠ Bs) (h0B : w0.heap.size ≤ Bs) (h0l : w0.heap.size ≤ l)
    (N : Nat) (hNb : N * 32 ≤ 140737488355328) (ss : List Plc) (x : Plc) (W : World) (h : MidP w0 fn sv Bs l D ss W) (hlen : ss.length < N) :
    YieldAt F m Tryz.prog l #[valP x] W fun e W' => e = .returned (.bool true) ∧ MidP w0 fn sv Bs l D (ss ++ [x]) W' ∧ KeepsWalks W W' := by
  obtain ⟨i0, hi, hz0, hz1, hz2⟩ : ∃ i0 : TypeInfo, Tryz.prog.info? 68 = some i0 ∧ i0.zero = some (.agg zeroP) ∧ i0.size = 2 ∧ i0.bytes = 32 := ⟨_, by rfl, by rfl, by rfl, by rfl⟩
  obtain ⟨v, hv, hrow⟩ := h.box
  refine ⟨fn, #[.slice none 0 0, sv, .pointer (some ⟨Bs, 0, none⟩), undef, .slice none 0 0, undef, sv, valP x, undef, undef, undef, undef, undef], asgP, bodP, by simpa [loopP] using run_yield (P := Tryz.prog) (args := #[valP x]) h.loop rfl, roundIn_of_wpIn hfn ?_⟩
  have hl0 : l < W.heap.size := (Array.getElem?_eq_some_iff.1 h.loop).1
  unfold asgP
  gi_wp2_with (first
    | (refine wpListIn_store_new rfl _ _ _ rfl _ (plcC x) _ _ rfl rfl rfl info_plc rfl (by kernel_rfl) ?_)
    | gi_round_op_a)
  obtain ⟨W1, hW1⟩ : ∃ W1, W1 = W.alloc (.cells (plcC x) 68) := ⟨_, rfl⟩
  have hold : ∀ k o, W.heap[k]? = some o → W1.heap[k]? = some o := fun k o hk => by rw [hW1]; exact (Below.heap_alloc _ _ k (Array.getElem?_eq_some_iff.1 hk).1).trans hk
  have hx1 : W1.heap[W.heap.size]? = some (.cells (plcC x) 68 (0, 0)) := by rw [hW1]; exact World.alloc_heap_new W _
  have hL1 := hold _ _ h.loop
  have hD1 := hold _ _ h.def0
  have hv1 := hold _ _ hv
  have hrow1 : W1.ownsRow w0.heap.size 68 2 v ss.length (ss.flatMap plcL) := by rw [hW1]; exact hrow.alloc _
  have hb1 : Below w0.heap.size w0 W1 := by rw [hW1]; exact h.below.alloc h.below.size _
  have hk1 : KeepsWalks W W1 := by rw [hW1]; exact KeepsWalks.alloc _ _
  have hs1 : W1.heap.size = W.heap.size + 1 := by rw [hW1]; simp
  have hvb : v.ownBlock ≠ some W.heap.size := fun e => by have := (hrow.lt _ e).2; omega
  rw [← hW1]
  clear hW1
  have hl : l < W1.heap.size := by omega
  have hbr := run_beginRound (P := Tryz.prog) hL1 rfl
  obtain ⟨W2, hW2⟩ : ∃ W2, W1.putObj l (.loop { loopP fn sv Bs D .ready none with state := .busy }) = W2 := ⟨_, rfl⟩
  rw [hW2] at hbr
  have hg2 : W1.grownBy W2 (some l) := by rw [← hW2]; exact grownBy_putObj_a _ _ _
  have hk2 : KeepsWalks W1 W2 := by rw [← hW2]; exact KeepsWalks.putObj _ hL1 rfl
  have hv2 : W2.heap[Bs]? = some (.cells #[v] 93 (0, 0)) := by rw [← hW2]; exact (World.putObj_heap_other hBl).trans hv1
  have hx2 : W2.heap[W.heap.size]? = some (.cells (plcC x) 68 (0, 0)) := by rw [← hW2]; exact (World.putObj_heap_other (by omega)).trans hx1
  have hK2 : W2.heap[D]? = some (.deferred (some [])) := by rw [← hW2]; exact (World.putObj_heap_other hDl).trans hD1
  have hL2 : W2.heap[l]? = some (.loop { loopP fn sv Bs D .ready none with state := .busy }) := by rw [← hW2]; exact World.putObj_heap_same hl
  have hrow2 : W2.ownsRow w0.heap.size 68 2 v ss.length (ss.flatMap plcL) := hrow1.kept hg2 (ownsRow_ne_a hrow1 hL1 (fun cur e => by cases e))
  have hb2 : Below w0.heap.size w0 W2 := hb1.grown hg2 hb1.size (fun k e => by cases e; exact h0l)
  have hk12 : KeepsWalks W W2 := hk1.trans hk2
  obtain ⟨hc2, hf2⟩ := cell_of_box_a hv2
  have hBlt : Bs < W2.heap.size := (Array.getElem?_eq_some_iff.1 hv2).1
  have hl2 : l < W2.heap.size := (Array.getElem?_eq_some_iff.1 hL2).1
  have hDlt : D < W2.heap.size := (Array.getElem?_eq_some_iff.1 hK2).1
  have ne_of : ∀ {j : Nat} {o : Obj}, W2.heap[j]? = some o → (∀ cur, o ≠ .cells cur 68 (0, 0)) → some j ≠ v.ownBlock := fun hj hno => by
    rcases ownsRow_ne_a hrow2 hj hno with e | e
    · rw [e]; simp
    · exact fun e' => e e'.symm
  clear hW2 hg2 hk1 hk2 hL1 hD1 hv1 hrow1 hb1 hx1
  refine ⟨W2, hbr, ?_⟩
  unfold bodP
  gi_wp2_with (first
    | (refine wpListIn_row_at rfl _ _ rfl rfl W.heap.size rfl _ _ _ _ hx2 Tryz.underlying68 rfl info_plc ?_)
    | (refine wpListIn_buildSlice rfl _ _ _ rfl rfl #[(0, .agg (plcC x))] rfl (slice_plc x _) ?_)
    | (gi_at_builtin; refine wpListIn_append_own _ rfl _ _ 93 rfl w0.heap.size 68 i0 (.agg zeroP) 2 32 Tryz.underlying93 hi hz0 hz1 hz2 rfl (by decide) _ _ _ rfl (hrow2.alloc _) ⟨W2.heap.size, 0, none⟩ 1 1 (plcL x) rfl rfl (blk_cells (W2.alloc (.cells (plcC x) 68)) W2.heap.size _ (plcL x) (World.alloc_heap_new W2 _)) (fun u hu => by simp [plcL] at hu; rcases hu with rfl | rfl <;> rfl) (by unfold maxLen; omega) (by omega) (by have := hb2.size; simp; omega) ?_
       intro v' w3 hown' hg3 hnil3
       have hv3 : w3.heap[Bs]? = some (.cells #[v] 93 (0, 0)) := (hg3.block Bs (by simp; omega) (ne_of hv2 (fun cur e => by cases e))).trans ((Below.heap_alloc _ _ Bs hBlt).trans hv2)
       obtain ⟨hc3, hf3⟩ := cell_of_box_a hv3
       obtain ⟨g', cap', rfl⟩ : ∃ g' cap', v' = .slice (some ⟨g', 0, none⟩) (ss.length + 1) cap' := by
         rcases hown'.2 with ⟨_, h0⟩ | ⟨g', cap', _, h', _⟩
         · exact absurd h0 (by omega)
         · exact ⟨g', cap', h'⟩
       go_frame)
    | gi_round_op_a)
  have hg3' : (W2.alloc (.cells (plcC x) 68)).grownBy w3 v.ownBlock := hg3
  have hL3 : w3.heap[l]? = some (.loop { loopP fn sv Bs D .ready none with state := .busy }) := (hg3'.block l (by simp; omega) (ne_of hL2 (fun cur e => by cases e))).trans ((Below.heap_alloc _ _ l hl2).trans hL2)
  have hK3 : w3.heap[D]? = some (.deferred (some [])) := (hg3'.block D (by simp; omega) (ne_of hK2 (fun cur e => by cases e))).trans ((Below.heap_alloc _ _ D hDlt).trans hK2)
  obtain ⟨w4, hw4⟩ : ∃ w4, w3.setCell ⟨Bs, 0, none⟩ (.slice (some ⟨g', 0, none⟩) (ss.length + 1) cap') = w4 := ⟨_, rfl⟩
  rw [hw4]
  have hg4 : w3.grownBy w4 (some Bs) := by rw [← hw4]; exact grownBy_setCell0_a _ _ _
  have hv4 : w4.heap[Bs]? = some (.cells #[.slice (some ⟨g', 0, none⟩) (ss.length + 1) cap'] 93 (0, 0)) := by rw [← hw4]; exact heap_setCell_box_a _ hv3
  have hL4 : w4.heap[l]? = some (.loop { loopP fn sv Bs D .ready none with state := .busy }) := (hg4.block l (Array.getElem?_eq_some_iff.1 hL3).1 (fun e => hBl (by cases e; rfl))).trans hL3
  have hK4 : w4.heap[D]? = some (.deferred (some [])) := (hg4.block D (Array.getElem?_eq_some_iff.1 hK3).1 (fun e => hDB (by cases e; rfl))).trans hK3
  have hrow4 := hown'.kept hg4 (ownsRow_ne_a hown' hv3 (fun cur e => ty_ne (Obj.cells.inj e).2.1))
  have hl4 : l < w4.heap.size := (Array.getElem?_eq_some_iff.1 hL4).1
  have hb3 : Below w0.heap.size w0 w3 := (hb2.alloc hb2.size _).grown hg3' (by have := hb2.size; simp; omega) (fun k e => (hrow2.lt k e).1)
  have hb4 : Below w0.heap.size w0 w4 := hb3.grown hg4 hb3.size (fun k e => by cases e; exact h0B)
  have hk4 : KeepsWalks W w4 := ((hk12.trans (KeepsWalks.alloc _ _)).trans (KeepsWalks.of_grownBy hg3' (ownsRow_not_walk_a (hrow2.alloc _)))).trans (by rw [← hw4]; exact KeepsWalks.setCell _ _ _)
  clear hw4
  refine ⟨_, _, run_endRound none hL4, rfl, ⟨⟨_, (World.putObj_heap_other hBl).trans hv4, ?_⟩, World.putObj_heap_same hl4, (World.putObj_heap_other hDl).trans hK4, hb4.grown (grownBy_putObj_a _ _ _) hb4.size (fun k e => by cases e; exact h0l)⟩, hk4.trans (KeepsWalks.putObj _ hL4 rfl)⟩
  have := hrow4.kept (grownBy_putObj_a w4 l (.loop { { loopP fn sv Bs D .ready none with state := .busy } with state := if (none : Option Code).isNone then .ready else .done, pending := none })) (ownsRow_ne_a hrow4 hL4 (fun cur e => by cases e))
  simpa [plcL] using this
set_option maxRecDepth 100000 in
set_option maxHeartbeats 2000000 in
theorem appendSeqP (F : Fence) (n : Nat) (h11 : F.fn 78) (hro : F.round = none) (hn : 2 ≤ n) (g : Nat) (lb : Array Value) (hFg : F.fn g) (eg : ∀ args w, (callFunc g args).run Tryz.prog w = .ok (.enter g args) w)
    (S : List Plc → Prop) (N : Nat) (hNb : N * 32 ≤ 140737488355328) (w : World) (hseq : SeqGives F (n - 1) Tryz.prog g lb valP S N w) :
    CallsIn F n Tryz.prog 78 #[.slice none 0 0, .func (.func g) #[] lb] w fun e w' =>
      ∃ (v : Value) (ss : List Plc), e = .returned v ∧ S ss ∧ w'.ownsRow w.heap.size 68 2 v ss.length (ss.flatMap plcL) ∧ Below w.heap.size w w' := by
  have h1 : 1 ≤ n := by omega
  refine callsIn_of_wp_marks Tryz.func78 rfl h11 ?_ hro
  simp only [Tryz.ntmps78, List.size_toArray, List.length_cons, List.length_nil, Nat.reduceAdd, Nat.reduceSub, Array.replicate_succ, Array.replicate_zero, List.push_toArray, List.append_toArray, List.nil_append, List.cons_append]
  gi_wp2
  refine wpIn_rangeFunc ?_
  intro fn hfn
  rw [hro]
  obtain ⟨W0, hW0⟩ : ∃ W0, w.alloc (.cells #[.slice none 0 0] 93) = W0 := ⟨_, rfl⟩
  have hs0 : W0.heap.size = w.heap.size + 1 := by rw [← hW0]; simp
  have hv0 : W0.heap[w.heap.size]? = some (.cells #[.slice none 0 0] 93 (0, 0)) := by rw [← hW0]; exact World.alloc_heap_new w _
  have hb0 : Below w.heap.size w W0 := by rw [← hW0]; exact (Below.refl _ w).alloc (Nat.le_refl _) _
  rw [hW0]
  obtain ⟨W1, hW1⟩ : ∃ W1, (W0.alloc (.deferred (some []))).alloc (.loop (loopP fn (.func (.func g) #[] lb) w.heap.size W0.heap.size .ready none)) = W1 := ⟨_, rfl⟩
  have hold : ∀ k, k < W0.heap.size → W1.heap[k]? = W0.heap[k]? := fun k hk => by
    rw [← hW1]; exact (Below.heap_alloc _ _ k (by simp; omega)).trans (Below.heap_alloc _ _ k hk)
  have hb1 : Below w.heap.size w W1 := by rw [← hW1]; exact (hb0.alloc hb0.size _).alloc (by have := hb0.size; simp; omega) _
  have hM : MidP w fn (.func (.func g) #[] lb) w.heap.size (W0.heap.size + 1) W0.heap.size [] W1 :=
    ⟨⟨_, (hold w.heap.size (by omega)).trans hv0, ⟨rfl, .inl ⟨rfl, rfl⟩⟩⟩,
     by rw [← hW1]; have := World.alloc_heap_new (W0.alloc (.deferred (some []))) (.loop (loopP fn (.func (.func g) #[] lb) w.heap.size W0.heap.size .ready none)); rwa [World.size_alloc] at this,
     by rw [← hW1]; exact (Below.heap_alloc _ _ _ (by simp)).trans (World.alloc_heap_new W0 _), hb1⟩
  refine ⟨W0.heap.size + 1, [{ target := .collected W0.heap.size, args := #[] }], W1, { target := .fn (.func g) lb, args := #[.func (.yield (W0.heap.size + 1)) #[] #[]] }, W1, g,
    #[.func (.yield (W0.heap.size + 1)) #[] #[]] ++ lb, W1, ?_, ?_, ?_, ?_, fun _ => h1, ?_⟩
  · rw [← hW1]; exact run_enterLoop_outer _ _ _ _ _
  · simp [resolve, go_sem]
  · intro f' hf'; simp [Target.leads] at hf'; subst hf'; exact hFg
  · simp [invoke, go_sem, eg]
  · refine (hseq (W0.heap.size + 1) (MidP w fn (.func (.func g) #[] lb) w.heap.size (W0.heap.size + 1) W0.heap.size) W1 hb1 (mid_abides _ _ _ _ _ _ _ hb1.size)
      (fun pre x W hJ hl => yieldP F (n - 1 - 1) w fn hfn _ w.heap.size (W0.heap.size + 1) W0.heap.size (by omega) (by omega) (by omega) (Nat.le_refl _) (by omega) N hNb pre x W hJ hl) hM).mono ?_
    rintro e W2 ⟨⟨v0, rfl⟩, ss, hS, h2⟩
    obtain ⟨v, hv, hrow⟩ := h2.box
    have hend := run_endLoop (P := Tryz.prog) h2.loop (by simp [loopP])
    obtain ⟨W3, hW3⟩ : ∃ W3, W2.putObj (W0.heap.size + 1) (.loop { loopP fn (.func (.func g) #[] lb) w.heap.size W0.heap.size .ready none with state := .exhausted }) = W3 := ⟨_, rfl⟩
    rw [hW3] at hend
    have hg3 : W2.grownBy W3 (some (W0.heap.size + 1)) := by rw [← hW3]; exact grownBy_putObj_a _ _ _
    have hv3 : W3.heap[w.heap.size]? = some (.cells #[v] 93 (0, 0)) := by rw [← hW3]; exact (World.putObj_heap_other (by omega)).trans hv
    have hK3 : W3.heap[W0.heap.size]? = some (.deferred (some [])) := by rw [← hW3]; exact (World.putObj_heap_other (by omega)).trans h2.def0
    have hrow3 := hrow.kept hg3 (ownsRow_ne_a hrow h2.loop (fun cur e => by cases e))
    have hb3 : Below w.heap.size w W3 := h2.below.grown hg3 h2.below.size (fun k e => by cases e; omega)
    obtain ⟨hc3, hf3⟩ := cell_of_box_a hv3
    clear hW3
    refine ⟨none, W3, hend, ?_⟩
    gi_wp2
    rw [← hs0]
    refine ⟨by simp, .inl ⟨_, _, rfl, run_takeDeferred hK3, ?_⟩⟩
    exact ⟨_, results_tmp rfl _ _ _, v, ss, rfl, hS, hrow3.kept (grownBy_putObj_a _ _ _) (ownsRow_ne_a hrow3 hK3 (fun cur e => by cases e)), hb3.grown (grownBy_putObj_a _ _ _) hb3.size (fun k e => by cases e; omega)⟩
theorem appendP_enters : ∀ args w, (callFunc 78 args).run Tryz.prog w = .ok (.enter 78 args) w := enters_of Tryz.func78 (by kernel_rfl) rfl
set_option maxHeartbeats 1000000 in
theorem collectP (F : Fence) (n : Nat) (h8 : F.fn 61) (h11 : F.fn 78) (hro : F.round = none) (hn : 3 ≤ n) (g : Nat) (lb : Array Value) (hFg : F.fn g) (eg : ∀ args w, (callFunc g args).run Tryz.prog w = .ok (.enter g args) w)
    (S : List Plc → Prop) (N : Nat) (hNb : N * 32 ≤ 140737488355328) (w : World) (hseq : SeqGives F (n - 1 - 1) Tryz.prog g lb valP S N w) :
    CallsIn F n Tryz.prog 61 #[.func (.func g) #[] lb] w fun e w' =>
      ∃ (v : Value) (ss : List Plc), e = .returned v ∧ S ss ∧ w'.ownsRow w.heap.size 68 2 v ss.length (ss.flatMap plcL) ∧ Below w.heap.size w w' := by
  have h1 : 1 ≤ n := by omega
  have e11 := appendP_enters
  refine callsIn_of_wp Tryz.func61 rfl h8 ?_ hro
  simp only [Tryz.ntmps61, List.size_toArray, List.length_cons, List.length_nil, Nat.reduceAdd, Nat.reduceSub, Array.replicate_succ, Array.replicate_zero, List.push_toArray, List.append_toArray, List.nil_append, List.cons_append]
  gi_wp2_with (gi_at_fn 78; refine (appendSeqP F (n - 1) h11 hro (by omega) g lb hFg eg S N hNb _ hseq).mono ?_; rintro e w' ⟨v, ss, rfl, hS, hrow, hb⟩)
  go_ret
  exact ⟨v, ss, rfl, hS, hrow, hb⟩

/-! The keys of a map of places -/
/-- All keys of D, each once. -/
def AllP (D : DataW Unit) (ss : List Plc) : Prop := ∃ left : Lit → Bool, Collected D left (ss.map kbP) ∧ (∀ x ∈ ss, okP x) ∧ ∀ kl, left kl = false
set_option maxRecDepth 100000 in
set_option maxHeartbeats 1000000 in
theorem keysP1 (F : Fence) (n : Nat) (h10 : F.fn 63) (hro : F.round = none) (hn : 1 ≤ n) (l Bm b nn : Nat) (D0 : DataW Unit) (J : List Plc → World → Prop)
    (hY : ∀ pre x W, J pre W → pre.length < Maps.size D0 → YieldAt F (n - 1) Tryz.prog l #[valP x] W fun e W' => e = .returned (.bool true) ∧ J (pre ++ [x]) W' ∧ KeepsWalks W W')
    (W : World) (hJ : AbidesFrom W.heap.size J) (hm : W.cell? ⟨Bm, 0, none⟩ = some (.map (some b))) (hown : W.ownsMap Tryz.prog 68 entElem b nn D0) (h0 : J [] W) :
    CallsIn F n Tryz.prog 63 #[.func (.yield l) #[] #[], .pointer (some ⟨Bm, 0, none⟩)] W fun e W' => (∃ v, e = .returned v) ∧ ∃ ss : List Plc, AllP D0 ss ∧ J ss W' := by
  refine callsIn_of_wp Tryz.func63 rfl h10 ?_ hro
  simp only [Tryz.ntmps63, List.size_toArray, List.length_cons, List.length_nil, Nat.reduceAdd, Nat.reduceSub, Array.replicate_succ, Array.replicate_zero, List.push_toArray, List.append_toArray, List.nil_append, List.cons_append]
  gi_wp2_with (first
    | (gi_at_range; refine wpListIn_range_own _ rfl _ 50 rfl 68 70 kdP Tryz.underlying50 _ b nn _ rfl hown ?_; intro w0 hrg0 hg0 hs0)
    | gi_in)
  go_frame
  gi_loopw [3] (fun _ wr => ∃ (left : Lit → Bool) (cnt : Nat) (ss : List Plc), wr.ranges Tryz.prog 68 entElem b W.heap.size nn D0 left cnt ∧ ss.length + cnt ≤ Maps.size D0 ∧ Collected D0 left (ss.map kbP) ∧ (∀ x ∈ ss, okP x) ∧ J ss wr)
    (fun _ wr => wr.rangeLeft b W.heap.size)
  case atStart =>
    exact ⟨_, _, [], hrg0, by simp, Collected.start D0, (fun x hx => by cases hx), hJ [] W w0 none h0 hg0 (fun r e => by cases e)⟩
  case round =>
    obtain ⟨left, cnt, ss, hrg, hcs, hC, hO, hJs⟩ := hrel
    gi_wp2_with (first
      | (gi_at_next; refine wpListIn_next_ranges _ rfl _ rfl 68 kdP entElem (fun p : Plc => .agg (plcC p)) id (fun key kl hk => by obtain ⟨x, _, hx, _⟩ := keyP_inv hk; exact ⟨x, hx⟩) (fun v _ _ => ⟨v, rfl⟩) b W.heap.size nn _ _ _ rfl hrg ?_ ?_)
      | gi_in)
    · intro hc0 hl0
      gi_wp2
      go_end0
      exact ⟨⟨_, rfl⟩, ss, ⟨left, hC, hO, hl0⟩, hJs⟩
    · intro x1 x2 c kl yd yp w2 cnt2 hkey hlk hv hat hrg2 hlt hg2 hs2 hen
      obtain ⟨x, hxe⟩ : ∃ x : Plc, x = (x1, x2) := ⟨_, rfl⟩
      rw [← hxe] at hkey hen ⊢
      clear hxe
      obtain ⟨x', hx', ex, rfl⟩ := keyP_inv hkey
      obtain rfl : x = x' := by injection ex with ex; exact plcC_inj ex
      have hJ2 : J ss w2 := hJ ss wr w2 (some W.heap.size) hJs hg2 (fun r e => by cases e; exact ⟨Nat.le_refl _, hrg.iter_walk⟩)
      have hJ3 : J ss (w2.alloc (.cells (plcC x) 68)) := hJ ss w2 _ none hJ2 (World.grownBy_alloc _ _ none) (fun r e => by cases e)
      obtain ⟨fn, tmps, assign, body, hy, hR⟩ := hY ss x _ hJ3 (by omega)
      have hx2 : (w2.alloc (.cells (plcC x) 68)).heap[w2.heap.size]? = some (.cells (plcC x) 68 (0, 0)) := World.alloc_heap_new w2 _
      have hrg2' := hrg2.alloc (.cells (plcC x) 68)
      rw [show valP x = .agg (plcC x) from rfl] at hy
      clear hs2
      gi_wp2_with (first
        | (refine wpListIn_store_new rfl _ _ _ rfl _ (plcC x) _ _ rfl rfl rfl info_plc rfl (by kernel_rfl) ?_)
        | (refine wpListIn_row_at rfl _ _ rfl rfl w2.heap.size rfl _ _ _ _ hx2 Tryz.underlying68 rfl info_plc ?_)
        | gi_in)
      refine hR.mono ?_
      rintro e W3 ⟨rfl, hJ4, hk3⟩
      gi_wp2
      have hrg3 := hrg2'.of_walks hk3
      go_roundw
      case rel => exact ⟨_, cnt2, ss ++ [x], hrg3, by simp; omega, by rw [List.map_append]; exact hC.step hlk hat, fun y hy => by
        rcases List.mem_append.1 hy with e | e
        · exact hO y e
        · rw [List.mem_singleton.1 e]; exact hx', hJ4⟩
      case measure => rw [hrg3.left_eq, hrg.left_eq]; exact hlt
theorem keysP_gives (F : Fence) (n : Nat) (h10 : F.fn 63) (hro : F.round = none) (hn : 1 ≤ n) (Bm b nn : Nat) (D0 : DataW Unit) (w : World) (hBm : Bm < w.heap.size)
    (hm : w.cell? ⟨Bm, 0, none⟩ = some (.map (some b))) (hown : w.ownsMap Tryz.prog 68 entElem b nn D0) :
    SeqGives F n Tryz.prog 63 #[.pointer (some ⟨Bm, 0, none⟩)] valP (AllP D0) (Maps.size D0) w := fun l J W hW hJ hY h0 => by
  have hown' : W.ownsMap Tryz.prog 68 entElem b nn D0 := L6.Turn.map (S := fun _ => False) (L6.Turn.of_keep hW) hown (fun h => h)
  exact keysP1 F n h10 hro hn l Bm b nn D0 J hY W hJ ((hW.cell (p := ⟨Bm, 0, none⟩) hBm).trans hm) hown' h0
end Go.Proofs.YthkgadjiiapfgaaGreatDoor
