/-
  Slices of structs as lists that stay as they are; a struct that is handed back.
-/
import Derived.Test.YthhjdielananeaaTap
import Derived.Test.YthhjdielananeaaParts
import Derived.Test.YthhjdielananeaaL6Foot
import Derived.Lib.Hide
import Derived.IntWalk
import Derived.WalkArith
set_option linter.unusedSimpArgs false
set_option linter.unusedVariables false
set_option maxRecDepth 10000
namespace Go.Proofs.Ythhjdielananeaa
open Go.RowKit Go.Maps Go.Lib
open L3 (Blk Reads block_of_add add_of_add)
open L6 (Turn moreB fresh From In)

theorem flat_get {α β : Type} {f : α → List β} {k : Nat} (hk : ∀ x, (f x).length = k) : ∀ {L : List α} {i c : Nat} (hi : i < L.length), c < k → (L.flatMap f)[i * k + c]? = (f L[i])[c]?
  | [], i, c, hi, _ => by simp at hi
  | a :: L, 0, c, _, hc => by
    rw [List.flatMap_cons, Nat.zero_mul, Nat.zero_add, List.getElem?_append_left (by rw [hk]; exact hc)]; rfl
  | a :: L, i + 1, c, hi, hc => by
    have hi' : i < L.length := by simpa using hi
    rw [List.flatMap_cons, List.getElem?_append_right (by rw [hk, Nat.add_mul]; omega), hk]
    have e : (i + 1) * k + c - k = i * k + c := by rw [Nat.add_mul]; omega
    rw [e, flat_get hk hi' hc]; rfl
theorem flat_len {α β : Type} {f : α → List β} {k : Nat} (hk : ∀ x, (f x).length = k) (L : List α) : (L.flatMap f).length = L.length * k := by
  induction L with
  | nil => simp
  | cons a L ih => rw [List.flatMap_cons, List.length_append, hk, ih, List.length_cons, Nat.add_mul]; omega
theorem blk_cells (w : World) (g : Nat) (T : TypeId) (cs : List Value) {fr : Nat × Nat} (h : w.heap[g]? = some (.cells cs.toArray T fr)) : ∀ j u, cs[j]? = some u → w.cell? ((⟨g, 0, none⟩ : Addr).add j) = some u := by
  intro j u hj
  unfold Addr.add
  split
  · next h0 => subst h0; simpa [World.cell?, h] using hj
  · simpa [World.cell?, h] using hj
theorem filter_snoc {α : Type} {L : List α} {k : Nat} (h : k < L.length) (p : α → Bool) : (L.take (k + 1)).filter p = (L.take k).filter p ++ if p L[k] = true then [L[k]] else [] := by
  rw [List.take_succ_eq_append_getElem h, List.filter_append]
  congr 1
  by_cases hp : p L[k] = true
  · rw [if_pos hp]; simp [hp]
  · rw [if_neg hp]; simp [hp]
theorem reads_one {w : World} {g : Nat} {T : TypeId} {cs : List Value} {k : Nat} (hk : cs.length = 1 * k) (h : Blk w g T cs.toArray) : Reads w (g + 1) k (some ⟨g, 0, none⟩) 1 cs :=
  ⟨hk, fun _ => ⟨⟨g, 0, none⟩, rfl, Nat.lt_succ_self g, blk_cells w g T cs h⟩⟩
theorem turn_row (w : World) (g : Nat) (cs : Array Value) : Turn (fun k => k = g) w (w.setRow g cs) := by
  refine ⟨rfl, rfl, rfl, by simp [World.setRow], fun i hi hn => ?_⟩
  have : ¬ g = i := fun e => hn e.symm
  simp [World.setRow, Array.getElem?_modify, this]
/-- In w a slice of these at A, each by its k cells f. -/
def Rd {α : Type} (f : α → List Value) (k : Nat) (w : World) (A : Option Addr) (L : List α) : Prop :=
  ∀ i (h : i < L.length), ∃ ad, A = some ad ∧ ad.block < w.heap.size ∧ ∀ j u, (f L[i])[j]? = some u → w.cell? ((ad.add (i * k)).add j) = some u
/-- Its block isn't one of S. -/
def Off (S : Nat → Prop) (A : Option Addr) : Prop := ∀ ad, A = some ad → ¬ S ad.block
section
variable {α : Type} {f : α → List Value} {k : Nat} {w w' : World} {A : Option Addr} {L : List α}
theorem Rd.nil : Rd f k w A [] := fun i h => absurd h (by simp)
theorem Rd.kept {S : Nat → Prop} (h : Rd f k w A L) (ht : Turn S w w') (ho : Off S A) : Rd f k w' A L := fun i hi => by
  obtain ⟨ad, hA, hl, hc⟩ := h i hi
  exact ⟨ad, hA, Nat.lt_of_lt_of_le hl ht.size, fun j u hj => ht.cell (hc j u hj) (by rw [block_of_add, block_of_add]; exact ho ad hA)⟩
theorem Rd.kept2 {S : Nat → Prop} (h : Rd f k w A L) (ht : Turn S w w') (ho : L.length ≠ 0 → Off S A) : Rd f k w' A L := fun i hi => h.kept ht (ho (by omega)) i hi
theorem Rd.below (h : Rd f k w A L) (hb : Below w.heap.size w w') : Rd f k w' A L := h.kept (S := fun _ => False) (L6.Turn.of_keep hb) (fun _ _ h => h)
theorem Rd.of_reads (hf : ∀ x, (f x).length = k) {B : Nat} (h : Reads w B k A L.length (L.flatMap f)) (hB : B ≤ w.heap.size) : Rd f k w A L := fun i hi => by
  obtain ⟨ad, hA, hb, hc⟩ := h.2 (by omega)
  refine ⟨ad, hA, by omega, fun j u hj => ?_⟩
  have hj2 : j < k := by
    rcases Nat.lt_or_ge j k with h | h
    · exact h
    · rw [List.getElem?_eq_none (by rw [hf]; exact h)] at hj; cases hj
  rw [add_of_add]
  exact hc _ u (by rw [flat_get hf hi hj2]; exact hj)
theorem Rd.reads (hf : ∀ x, (f x).length = k) (h : Rd f k w A L) : Reads w w.heap.size k A L.length (L.flatMap f) := by
  refine ⟨flat_len hf L, fun h0 => ?_⟩
  obtain ⟨ad, hA, hb, _⟩ := h 0 h0
  refine ⟨ad, hA, hb, fun j u hj => ?_⟩
  have hjl : j < L.length * k := by
    rcases Nat.lt_or_ge j (L.length * k) with h | h
    · exact h
    · rw [List.getElem?_eq_none (by rw [flat_len hf]; exact h)] at hj; cases hj
  have k0 : 0 < k := Nat.pos_of_ne_zero (fun h => by subst h; simp at hjl)
  have hq : j / k < L.length := Nat.div_lt_of_lt_mul (by rw [Nat.mul_comm]; exact hjl)
  have hm := Nat.mod_lt j k0
  have e : j = j / k * k + j % k := by have := Nat.div_add_mod j k; rw [Nat.mul_comm] at this; exact this.symm
  obtain ⟨ad2, hA2, _, hc⟩ := h (j / k) hq
  rw [hA] at hA2
  injection hA2 with hA2
  subst hA2
  have := hc (j % k) u (by rw [← flat_get hf hq hm, ← e]; exact hj)
  rw [add_of_add, ← e] at this
  exact this
/-- A row of the call's own, read. -/
theorem Rd.of_row (hf : ∀ x, (f x).length = k) {base : Nat} {e : TypeId} {v : Value} (hr : w.ownsRow base e k v L.length (L.flatMap f)) :
    ∃ A c, v = .slice A L.length c ∧ Rd f k w A L ∧ ∀ ad, A = some ad → base ≤ ad.block ∧ ad.block < w.heap.size := by
  obtain ⟨A, c, rfl, _, hrd⟩ := L6.row_reads hr
  refine ⟨A, c, rfl, Rd.of_reads hf hrd (Nat.le_refl _), fun ad hA => ?_⟩
  subst hA
  exact hr.lt ad.block rfl
end
theorem Off.of_ge {S : Nat → Prop} {A : Option Addr} {B : Nat} (h : ∀ ad, A = some ad → B ≤ ad.block) (hS : ∀ k, S k → k < B) : Off S A := fun ad hA hs => by have := h ad hA; have := hS _ hs; omega
theorem Off.mono {S S' : Nat → Prop} {A : Option Addr} (h : Off S A) (hs : ∀ k, S' k → S k) : Off S' A := fun ad hA h' => h ad hA (hs _ h')

/-! A struct that is handed back -/
theorem results_row {P : Program} {fn : Func} {d : Tmp} {ty : TypeId} (h : fn.results = #[.cell d ty]) (tmps : Array Value) (w : World) (g : Nat) (hx : tmps.getD d undef = .pointer (some ⟨g, 0, none⟩)) (t : TypeId) (cs : Array Value) (fr : Nat × Nat) (ds : TypeDesc)
    (hb : w.heap[g]? = some (.cells cs t fr)) (hu : P.underlying ty = some ds) (hd : (match ds with | .struct _ | .array _ _ => true | _ => false) = true) (hi : (P.info? ty).map (·.size) = some cs.size) : (results fn tmps).run P w = .ok (.agg cs) w := by
  have hx' : tmps[d]?.getD undef = .pointer (some ⟨g, 0, none⟩) := by simpa using hx
  simp [results, h, hx', asAddr, run_loadVar_row w g t ty cs fr ds hb hu hd hi]
theorem results_row2 {P : Program} {fn : Func} {d k : Tmp} {ty : TypeId} (h : fn.results = #[.cell d ty, .tmp k]) (tmps : Array Value) (w : World) (g : Nat) (hx : tmps.getD d undef = .pointer (some ⟨g, 0, none⟩)) (v : Value) (hv : tmps.getD k undef = v) (t : TypeId) (cs : Array Value) (fr : Nat × Nat) (ds : TypeDesc)
    (hb : w.heap[g]? = some (.cells cs t fr)) (hu : P.underlying ty = some ds) (hd : (match ds with | .struct _ | .array _ _ => true | _ => false) = true) (hi : (P.info? ty).map (·.size) = some cs.size) : (results fn tmps).run P w = .ok (.tuple #[.agg cs, v]) w := by
  have hx' : tmps[d]?.getD undef = .pointer (some ⟨g, 0, none⟩) := by simpa using hx
  have hv' : tmps[k]?.getD undef = v := by simpa using hv
  simp [results, h, hx', hv', asAddr, run_loadVar_row w g t ty cs fr ds hb hu hd hi]
theorem wpList_store_row {P : Program} {ops : Array Oper} {rest : List Oper} {o : Oper} {a : Act} {w : World} {Q : Exit → Act → World → Prop} (hw : Region.wanted o (yielded ops a.tmps) = true) (ty : TypeId) (x y : Operand) (ho : o.op = .store ty x y) (g : Nat) (cells : Array Value) (hx : a.eval x = .pointer (some ⟨g, 0, none⟩)) (hy : a.eval y = .agg cells)
    (t : TypeId) (old : Array Value) (hb : Blk w g t old) (hi : (P.info? ty).map (·.size) = some cells.size) (hold : old.size = cells.size) (h1 : cells.all (·.oneCell') = true)
    (h : wpList P ops Q rest (a.put o.dst undef) (w.setRow g cells)) : wpList P ops Q (o :: rest) a w :=
  wpList_wanted hw fun _ hK => wp_store_row ty x y ho g cells hx hy t old hb hi hold h1 (hK _ _ h)
/-- A store of a whole struct into the block that was laid last, its number named. -/
theorem wpList_store_last {P : Program} {ops : Array Oper} {rest : List Oper} {o : Oper} {a : Act} {Q : Exit → Act → World → Prop} (hw : Region.wanted o (yielded ops a.tmps) = true) (ty : TypeId) (x y : Operand) (ho : o.op = .store ty x y) (w0 : World) (g : Nat) (hg : g = w0.heap.size) (cells : Array Value) (hx : a.eval x = .pointer (some ⟨g, 0, none⟩)) (hy : a.eval y = .agg cells)
    (t : TypeId) (old : Array Value) (hi : (P.info? ty).map (·.size) = some cells.size) (hold : old.size = cells.size) (h1 : cells.all (·.oneCell') = true)
    (h : wpList P ops Q rest (a.put o.dst undef) (w0.alloc (.cells cells t))) : wpList P ops Q (o :: rest) a (w0.alloc (.cells old t)) := by
  subst hg
  exact wpList_store_new hw ty x y ho w0 cells hx hy t old hi hold h1 h
theorem blk_setRow {w : World} {g : Nat} {t : TypeId} {old cs : Array Value} (h : Blk w g t old) : Blk (w.setRow g cs) g t cs := by
  unfold Blk World.setRow at *
  simp [Array.getElem?_modify, h]
theorem below_setRow {B : Nat} {w W : World} {g : Nat} {cs : Array Value} (h : Below B w W) (hg : B ≤ g) : Below B w (W.setRow g cs) := by
  refine h.trans ⟨rfl, rfl, rfl, by simp [World.setRow], fun i hi => ?_⟩
  have : ¬ g = i := by omega
  simp [World.setRow, Array.getElem?_modify, this]
/-- A callee that keeps what is held: what it hands back is known. -/
theorem wpQuiet_fn {P : Program} {ops : Array Oper} {S : World → Prop} {o : Oper} {rest : List Oper} {a : Act} {Qa : Act → Prop} (hg : Region.wanted o (yielded ops a.tmps) = true) (f : FuncId) (xs : Array Operand) (ts : Array TypeId)
    (ho : o.op = .call { callee := .value (.func f), args := xs, argTypes := ts }) (hc : ∀ args w, (callFunc f args).run P w = .ok (.enter f args) w) (args : List Value) (ha : xs.toList.map a.eval = args) {v : Value}
    (hv : ∀ x : WorldIn S, Calls P f args.toArray x.w fun e w' => e = .returned v ∧ S w')
    (h : wpQuiet P ops (fun w' => ∃ x : WorldIn S, w' = x.w) Qa rest (a.put o.dst v)) : wpQuiet P ops (fun w' => ∃ x : WorldIn S, w' = x.w) Qa (o :: rest) a := by
  refine wpQuiet_call hg f args.toArray (fun w => ?_) hv h
  have ha' : xs.map a.eval = args.toArray := by apply Array.toList_inj.1; rw [Array.toList_map]; exact ha
  simp [execOp, ho, resolve, invoke, Deferred.ofValue, hc, ← ha', Act.eval]
end Go.Proofs.Ythhjdielananeaa
