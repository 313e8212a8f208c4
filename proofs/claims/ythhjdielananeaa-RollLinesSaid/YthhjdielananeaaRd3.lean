/-
  The document's reader, as a value: numbers, as the code's reader tells them, but for the error's number.
-/
import Derived.Test.YthhjdielananeaaRd
import Derived.Test.YthhjdielananeaaStrV
import Derived.Test.YthhjdielananeaaL3Reader
import Derived.LoopTactic
import Derived.BigQuiet
set_option linter.unusedSimpArgs false
set_option linter.unusedVariables false
set_option maxRecDepth 10000
namespace Go.Proofs.Ythhjdielananeaa
open Go.RowKit Go.Maps Go.Lib
open L3 (Blk Reads numS failS rdN)

def numV (p : List UInt8 × Int) : Int := (rdN 0 0 p.1).1
theorem blk_far {w : World} {g G : Nat} {t : TypeId} {cs ds : Array Value} (h : Blk w g t cs) (hg : G ≠ g) : Blk (w.setRow G ds) g t cs := by
  unfold L3.Blk World.setRow at *
  simp [Array.getElem?_modify, hg, h]
/-- Behind an error nothing is left. -/
def invS (p : List UInt8 × Int) : Prop := p.2 ≠ 0 → p.1 = []
/-- An error, and nothing left. -/
def deadS (p : List UInt8 × Int) : Prop := p.2 ≠ 0 ∧ p.1 = []
theorem deadS.inv {p : List UInt8 × Int} (h : deadS p) : invS p := fun _ => h.2
theorem numV_dead {p : List UInt8 × Int} (h : deadS p) : numV p = 0 ∧ numS p = p := by
  obtain ⟨l, e⟩ := p
  obtain ⟨h1, h2⟩ := h
  dsimp only at h1 h2
  subst h2
  refine ⟨rfl, ?_⟩
  unfold L3.numS L3.failS
  have e1 : (rdN 0 0 ([] : List UInt8)).2.2 = 30 := rfl
  dsimp only
  rw [e1, if_neg (by decide), if_pos (.inl h1)]
theorem failS_inv {p : List UInt8 × Int} (e : Int) (h : invS p) : invS (failS e p) := by
  unfold L3.failS
  split
  · exact h
  · exact fun _ => rfl
theorem failS_dead {p : List UInt8 × Int} {e : Int} (h : invS p) (he : e ≠ 0) : deadS (failS e p) := by
  unfold L3.failS
  by_cases h1 : p.2 ≠ 0
  · rw [if_pos (.inl h1)]; exact ⟨h1, h h1⟩
  · rw [if_neg (by rintro (h2 | h2) <;> contradiction)]; exact ⟨he, rfl⟩
theorem numS_inv {p : List UInt8 × Int} (h : invS p) : invS (numS p) := by
  unfold L3.numS
  split
  · intro h1
    have := h h1
    show p.1.drop _ = []
    rw [this]; simp
  · exact failS_inv _ h
theorem numV_nn (p : List UInt8 × Int) : 0 ≤ numV p := Int.natCast_nonneg _
/-- A document's reader, as a value. -/
def rC (l : List UInt8) (E : Int) : Array Value := #[.string (str l), .int .i64 E]
def zC : Array Value := #[.string ⟨#[]⟩, .int .i64 0]
theorem qrInfo (l : List UInt8) (E : Int) : (Try.prog.info? 84).map (·.size) = some (rC l E).size := by kernel_rfl
theorem rC_ones (l : List UInt8) (E : Int) : (rC l E).all (·.oneCell') = true := by kernel_rfl
theorem build_rE (E : Int) (w : World) : (Instr.build 84 #[(1, .int .i64 E)]).run Try.prog w = .ok (.agg (rC [] E)) w := run_build w _ _ _ (by kernel_rfl)
theorem build_rS (l : List UInt8) (w : World) : (Instr.build 84 #[(0, .string (str l))]).run Try.prog w = .ok (.agg (rC l 0)) w := run_build w _ _ _ (by kernel_rfl)
/-- Its error stands for the code's. -/
def okE (E : Int) (p : List UInt8 × Int) : Prop := (E = 0 ↔ p.2 = 0) ∧ invS p ∧ p.1.length ≤ 1000000
theorem failS_len (e : Int) (p : List UInt8 × Int) : (failS e p).1.length ≤ p.1.length := by unfold L3.failS; split <;> simp
theorem numS_len (p : List UInt8 × Int) : (numS p).1.length ≤ p.1.length := by
  unfold L3.numS
  split
  · show (p.1.drop _).length ≤ _; simp
  · exact failS_len _ _
/-- What is handed back: a reader like the code's. -/
def leads (f : Int → Value) (p : List UInt8 × Int) (w : World) (e : Ending) (w' : World) : Prop := ∃ E, e = .returned (f E) ∧ okE E p ∧ Below w.heap.size w w'
theorem okE.dead {E : Int} {p : List UInt8 × Int} (h : okE E p) (he : E ≠ 0) : deadS p := by
  have : p.2 ≠ 0 := fun h2 => he (h.1.2 h2)
  exact ⟨this, h.2.1 this⟩
theorem okE.alive {E : Int} {p : List UInt8 × Int} (h : okE E p) (he : E = 0) : p.2 = 0 := h.1.1 he
theorem okE.fail {E : Int} {p : List UInt8 × Int} (h : okE E p) (e2 : Int) : okE (failS e2 (p.1, E)).2 (failS e2 p) ∧ (failS e2 (p.1, E)).1 = (failS e2 p).1 := by
  refine ⟨⟨?_, failS_inv _ h.2.1, Nat.le_trans (failS_len _ _) h.2.2⟩, ?_⟩
  · unfold L3.failS
    dsimp only
    by_cases h1 : E = 0
    · have h2 := h.alive h1
      by_cases h3 : e2 = 0
      · rw [if_pos (.inr h3), if_pos (.inr h3)]; exact h.1
      · rw [if_neg (by rintro (h4 | h4) <;> contradiction), if_neg (by rintro (h4 | h4) <;> contradiction)]
    · have h2 := (h.dead h1).1
      rw [if_pos (.inl h1), if_pos (.inl h2)]
      exact h.1
  · unfold L3.failS
    dsimp only
    by_cases h1 : E = 0
    · have h2 := h.alive h1
      by_cases h3 : e2 = 0
      · rw [if_pos (.inr h3), if_pos (.inr h3)]
      · rw [if_neg (by rintro (h4 | h4) <;> contradiction), if_neg (by rintro (h4 | h4) <;> contradiction)]
    · have h2 := (h.dead h1).1
      rw [if_pos (.inl h1), if_pos (.inl h2)]
theorem results_rowS {P : Program} {fn : Func} {d k : Tmp} {ty : TypeId} (h : fn.results = #[.tmp k, .cell d ty]) (tmps : Array Value) (w : World) (g : Nat) (hx : tmps.getD d undef = .pointer (some ⟨g, 0, none⟩)) (v : Value) (hv : tmps.getD k undef = v) (t : TypeId) (cs : Array Value) (fr : Nat × Nat) (ds : TypeDesc)
    (hb : w.heap[g]? = some (.cells cs t fr)) (hu : P.underlying ty = some ds) (hd : (match ds with | .struct _ | .array _ _ => true | _ => false) = true) (hi : (P.info? ty).map (·.size) = some cs.size) : (results fn tmps).run P w = .ok (.tuple #[v, .agg cs]) w := by
  have hx' : tmps[d]?.getD undef = .pointer (some ⟨g, 0, none⟩) := by simpa using hx
  have hv' : tmps[k]?.getD undef = v := by simpa using hv
  simp [results, h, hx', hv', asAddr, run_loadVar_row w g t ty cs fr ds hb hu hd hi]
theorem results_rowRR {P : Program} {fn : Func} {d1 d2 : Tmp} {ty1 ty2 : TypeId} (h : fn.results = #[.cell d1 ty1, .cell d2 ty2]) (tmps : Array Value) (w : World) (g1 g2 : Nat) (hx1 : tmps.getD d1 undef = .pointer (some ⟨g1, 0, none⟩)) (hx2 : tmps.getD d2 undef = .pointer (some ⟨g2, 0, none⟩)) (t1 t2 : TypeId) (cs1 cs2 : Array Value) (fr1 fr2 : Nat × Nat) (ds1 ds2 : TypeDesc)
    (hb1 : w.heap[g1]? = some (.cells cs1 t1 fr1)) (hb2 : w.heap[g2]? = some (.cells cs2 t2 fr2)) (hu1 : P.underlying ty1 = some ds1) (hd1 : (match ds1 with | .struct _ | .array _ _ => true | _ => false) = true) (hi1 : (P.info? ty1).map (·.size) = some cs1.size) (hu2 : P.underlying ty2 = some ds2) (hd2 : (match ds2 with | .struct _ | .array _ _ => true | _ => false) = true) (hi2 : (P.info? ty2).map (·.size) = some cs2.size) :
    (results fn tmps).run P w = .ok (.tuple #[.agg cs1, .agg cs2]) w := by
  have hx1' : tmps[d1]?.getD undef = .pointer (some ⟨g1, 0, none⟩) := by simpa using hx1
  have hx2' : tmps[d2]?.getD undef = .pointer (some ⟨g2, 0, none⟩) := by simpa using hx2
  simp [results, h, hx1', hx2', asAddr, run_loadVar_row w g1 t1 ty1 cs1 fr1 ds1 hb1 hu1 hd1 hi1, run_loadVar_row w g2 t2 ty2 cs2 fr2 ds2 hb2 hu2 hd2 hi2]
theorem two_rd (w : World) (t u : TypeId) (x y : Array Value) : Blk ((w.alloc (.cells x t)).alloc (.cells y u)) w.heap.size t x ∧ Blk ((w.alloc (.cells x t)).alloc (.cells y u)) (w.heap.size + 1) u y ∧ Below w.heap.size w ((w.alloc (.cells x t)).alloc (.cells y u)) := by
  have hb : Below w.heap.size w (w.alloc (.cells x t)) := (Below.refl _ w).alloc (Nat.le_refl _) _
  refine ⟨(Blk.new w _ _).alloc _, ?_, hb.alloc hb.size _⟩
  have := Blk.new (w.alloc (.cells x t)) u y
  simpa using this
set_option maxHeartbeats 2000000 in
set_option maxRecDepth 100000 in
theorem qfail_raw (l : List UInt8) (E e2 : Int) (w : World) : Calls Try.prog 57 #[.agg (rC l E), .int .i64 e2] w (gives (.agg (rC (failS e2 (l, E)).1 (failS e2 (l, E)).2)) w) := by
  have Z := Lib.hid (two_rd w 84 84 (rC l E) zC)
  by_cases h1 : E = 0
  · by_cases h2 : e2 = 0
    · have hF : failS e2 (l, E) = (l, E) := by unfold L3.failS; rw [if_pos (.inr h2)]
      rw [hF]
      subst h1
      subst h2
      clear hF
      go_enter Try.func57, Try.ntmps57
      go_upto_region 1 with fail
      refine name_world (fun w0 hw0 => ?_)
      have hZ := Z.out
      have hZ' : Blk w0 w.heap.size 84 (rC l 0) ∧ Blk w0 (w.heap.size + 1) 84 zC ∧ Below w.heap.size w w0 := by rw [hw0]; exact hZ
      clear hw0 hZ Z
      obtain ⟨k1, k2, hb⟩ := hZ'
      have c1 : w0.cell? ⟨w.heap.size, 1, none⟩ = some (.int .i64 0) := k1.cell 1
      go_wp2_with (first
        | (refine wpList_row_at rfl _ _ rfl w.heap.size rfl _ _ _ _ k1 Try.underlying84 rfl (qrInfo _ _) ?_)
        | (refine wpList_store_row rfl _ _ _ rfl (w.heap.size + 1) (rC l 0) rfl rfl _ _ k2 (qrInfo _ _) rfl (rC_ones _ _) ?_))
      (try simp only [Exit.inBlock, Exit.then])
      refine bodyPost_ret (v := .agg (rC l 0)) (results_row rfl _ _ (w.heap.size + 1) rfl _ (rC l 0) _ _ (blk_setRow k2) Try.underlying84 rfl (qrInfo _ _)) rfl ?_
      exact ⟨rfl, below_setRow hb (Nat.le_succ _)⟩
    · have hF : failS e2 (l, E) = ([], e2) := by unfold L3.failS; rw [if_neg (by rintro (h4 | h4) <;> contradiction)]
      rw [hF]
      subst h1
      have h3 : (e2 == 0) = false := by simpa using h2
      clear hF h2
      go_enter Try.func57, Try.ntmps57
      go_upto_region 1 with fail
      refine name_world (fun w0 hw0 => ?_)
      have hZ := Z.out
      have hZ' : Blk w0 w.heap.size 84 (rC l 0) ∧ Blk w0 (w.heap.size + 1) 84 zC ∧ Below w.heap.size w w0 := by rw [hw0]; exact hZ
      clear hw0 hZ Z
      obtain ⟨k1, k2, hb⟩ := hZ'
      have c1 : w0.cell? ⟨w.heap.size, 1, none⟩ = some (.int .i64 0) := k1.cell 1
      go_wp2_with (first
        | (refine wpList_build rfl _ _ rfl #[(1, .int .i64 e2)] rfl (build_rE _ _) ?_)
        | (refine wpList_store_row rfl _ _ _ rfl (w.heap.size + 1) (rC [] e2) rfl rfl _ _ k2 (qrInfo _ _) rfl (rC_ones _ _) ?_))
      (try simp only [Exit.inBlock, Exit.then])
      refine bodyPost_ret (v := .agg (rC [] e2)) (results_row rfl _ _ (w.heap.size + 1) rfl _ (rC [] e2) _ _ (blk_setRow k2) Try.underlying84 rfl (qrInfo _ _)) rfl ?_
      exact ⟨rfl, below_setRow hb (Nat.le_succ _)⟩
  · have hF : failS e2 (l, E) = (l, E) := by unfold L3.failS; rw [if_pos (.inl h1)]
    rw [hF]
    have h3 : (E != 0) = true := by simpa using h1
    clear hF h1
    go_enter Try.func57, Try.ntmps57
    go_upto_region 1 with fail
    refine name_world (fun w0 hw0 => ?_)
    have hZ := Z.out
    have hZ' : Blk w0 w.heap.size 84 (rC l E) ∧ Blk w0 (w.heap.size + 1) 84 zC ∧ Below w.heap.size w w0 := by rw [hw0]; exact hZ
    clear hw0 hZ Z
    obtain ⟨k1, k2, hb⟩ := hZ'
    have c1 : w0.cell? ⟨w.heap.size, 1, none⟩ = some (.int .i64 E) := k1.cell 1
    go_wp2_with (first
      | (refine wpList_row_at rfl _ _ rfl w.heap.size rfl _ _ _ _ k1 Try.underlying84 rfl (qrInfo _ _) ?_)
      | (refine wpList_store_row rfl _ _ _ rfl (w.heap.size + 1) (rC l E) rfl rfl _ _ k2 (qrInfo _ _) rfl (rC_ones _ _) ?_))
    (try simp only [Exit.inBlock, Exit.then])
    refine bodyPost_ret (v := .agg (rC l E)) (results_row rfl _ _ (w.heap.size + 1) rfl _ (rC l E) _ _ (blk_setRow k2) Try.underlying84 rfl (qrInfo _ _)) rfl ?_
    exact ⟨rfl, below_setRow hb (Nat.le_succ _)⟩
/-- An error is told once. -/
theorem qfail_any (p : List UInt8 × Int) (E e2 : Int) (w : World) (h : okE E p) : Calls Try.prog 57 #[.agg (rC p.1 E), .int .i64 e2] w (leads (fun E' => .agg (rC (failS e2 p).1 E')) (failS e2 p) w) := by
  refine (qfail_raw p.1 E e2 w).mono ?_
  rintro e w' ⟨rfl, hb⟩
  obtain ⟨h1, h2⟩ := h.fail e2
  exact ⟨_, by rw [h2], h1, hb⟩
end Go.Proofs.Ythhjdielananeaa
