/-
  A list of bytes, with one more behind: what is made in any order.
-/
import Derived.Test.YthhjdielananeaaSame
import Derived.Test.YthhjdielananeaaAlive
set_option linter.unusedSimpArgs false
set_option linter.unusedVariables false
set_option maxRecDepth 10000
namespace Go.Proofs.Ythhjdielananeaa
open Go.RowKit Go.Lib
open L3 (Blk Reads block_of_add add_of_add)
open L6 (Turn moreB fresh From In Apart)

theorem em_row (w : World) : (Instr.buildSlice 55 0 #[]).run Try.prog w = .ok (.slice (some ⟨w.heap.size, 0, none⟩) 0 0) (w.alloc (.cells #[] 53)) := by kernel_rfl
theorem wpList_append_met {P : Program} {w : World} {ops : Array Oper} {rest : List Oper} {o : Oper} {a : Act} {Q : Exit → Act → World → Prop} (hgd : Region.wanted o (yielded ops a.tmps) = true) (s x : Operand) (t : TypeId)
    (ho : o.op = .call { callee := .builtin .append, args := #[s, x], argTypes := #[t, t] })
    (base : Nat) (e : TypeId) (i : TypeInfo) (z : Value) (size bytes : Nat) (ht : P.underlying t = some (.slice e)) (hi : P.info? e = some i) (hz : i.zero = some z)
    (hsize : i.size = size) (hby : i.bytes = bytes) (hzs : z.cells.size = size) (hsz : 0 < size)
    (v : Value) (n : Nat) (xs : List Value) (hs : a.eval s = v) (hown : w.ownsRow base e size v n xs)
    (B : Nat) (A : Option Addr) (m c : Nat) (news : List Value) (hx : a.eval x = .slice A m c) (hr : Reads w B size A m news) (h1 : ∀ u ∈ news, u.oneCell' = true)
    (h63 : n + m ≤ maxLen) (hbytes : (n + m) * bytes ≤ 140737488355328) (hbase : base ≤ w.heap.size)
    (h : ∀ v' w', w'.ownsRow base e size v' (n + m) (xs ++ news) → w.grownBy w' v.ownBlock → (v'.ownBlock = v.ownBlock ∨ v'.ownBlock = some w.heap.size) → wpList P ops Q rest (a.put o.dst v') w') : wpList P ops Q (o :: rest) a w :=
  wpList_wanted hgd fun _ hK => L3.wp_append_any w s x t ho base e i z size bytes ht hi hz hsize hby hzs hsz v n xs hs hown B A m c news hx hr h1 h63 hbytes hbase fun v' w' h2 h3 h4 => hK _ _ (h v' w' h2 h3 h4)
/-- The records' own values. -/
theorem heads : ∀ (L : List (List UInt8)) (F : Nat → List UInt8 → Value → Prop), (∀ i b, L[i]? = some b → ∃ u, F i b u) → ∃ xs : List Value, xs.length = L.length ∧ ∀ i b u, L[i]? = some b → xs[i]? = some u → F i b u
  | [], F, _ => ⟨[], rfl, fun i b u h => by simp at h⟩
  | a :: L, F, h => by
    obtain ⟨u, hu⟩ := h 0 a rfl
    obtain ⟨xs, h1, h2⟩ := heads L (fun i => F (i + 1)) (fun i b hb => h (i + 1) b hb)
    refine ⟨u :: xs, by simp [h1], fun i b v hb hv => ?_⟩
    cases i with
    | zero => simp at hb hv; subst hb hv; exact hu
    | succ i => exact h2 i b v (by simpa using hb) (by simpa using hv)
theorem rcp_heads {w : World} {P : Nat → Prop} {A : Option Addr} {R : List (List UInt8)} (h : RcP w P A R) (hP : ∀ k, P k → k < w.heap.size) : ∃ xs : List Value, Reads w w.heap.size 1 A R.length xs ∧ (∀ u ∈ xs, u.oneCell' = true) ∧
    ∀ (j : Nat) (b : List UInt8), R[j]? = some b → ∃ (Aj : Option Addr) (cj : Nat), xs[j]? = some (Value.slice Aj b.length cj) ∧ Reads w w.heap.size 1 Aj b.length (bcs b) ∧ (0 < b.length → ∀ a, Aj = some a → P a.block) := by
  obtain ⟨xs, hl, hx⟩ := heads R (fun i b u => ∃ (ad : Addr) (Ai : Option Addr) (ci : Nat), u = Value.slice Ai b.length ci ∧ A = some ad ∧ P ad.block ∧ w.cell? (ad.add i) = some u ∧ Reads w w.heap.size 1 Ai b.length (bcs b) ∧ (0 < b.length → ∀ a, Ai = some a → P a.block)) (fun i b hb => by
    obtain ⟨ad, Ai, ci, e, h1, h3, h4, h5⟩ := h i b hb
    exact ⟨_, ad, Ai, ci, rfl, e, h1, h3, h4, h5⟩)
  have hg : ∀ j (hj : j < xs.length), ∃ (b : List UInt8) (ad : Addr) (Ai : Option Addr) (ci : Nat), R[j]? = some b ∧ xs[j] = Value.slice Ai b.length ci ∧ A = some ad ∧ P ad.block ∧ w.cell? (ad.add j) = some xs[j] ∧ Reads w w.heap.size 1 Ai b.length (bcs b) ∧ (0 < b.length → ∀ a, Ai = some a → P a.block) := fun j hj => by
    have hj' : j < R.length := by omega
    obtain ⟨ad, Ai, ci, h1, h2, h3, h4, h5, h6⟩ := hx j R[j] xs[j] (List.getElem?_eq_getElem hj') (List.getElem?_eq_getElem hj)
    exact ⟨R[j], ad, Ai, ci, List.getElem?_eq_getElem hj', h1, h2, h3, h4, h5, h6⟩
  refine ⟨xs, ⟨by omega, fun h0 => ?_⟩, fun u hu => ?_, fun j b hb => ?_⟩
  · obtain ⟨b, ad, Ai, ci, _, _, e, hp, _⟩ := hg 0 (by omega)
    refine ⟨ad, e, hP _ hp, fun j u hu => ?_⟩
    obtain ⟨hj, hju⟩ := List.getElem?_eq_some_iff.1 hu
    obtain ⟨b', ad', Ai', ci', _, _, e', _, hc, _⟩ := hg j hj
    rw [e] at e'
    injection e' with e'
    rw [e', ← hju]
    exact hc
  · obtain ⟨j, hj, rfl⟩ := List.mem_iff_getElem.1 hu
    obtain ⟨b, ad, Ai, ci, _, e, _⟩ := hg j hj
    rw [e]
    rfl
  · have hj : j < xs.length := by have := (List.getElem?_eq_some_iff.1 hb).1; omega
    obtain ⟨b', ad, Ai, ci, hb', e, _, _, _, h5, h6⟩ := hg j hj
    rw [hb] at hb'
    injection hb' with hb'
    subst hb'
    exact ⟨Ai, ci, by rw [List.getElem?_eq_getElem hj, e], h5, h6⟩
/-- A row of its own that holds a list of bytes. -/
def Gr (w : World) (B : Nat) (v : Value) (L : List (List UInt8)) : Prop :=
  ∃ xs, w.ownsRow B 53 1 v L.length xs ∧ ∀ (j : Nat) (b : List UInt8), L[j]? = some b → ∃ (Aj : Option Addr) (cj : Nat), xs[j]? = some (Value.slice Aj b.length cj) ∧ Reads w w.heap.size 1 Aj b.length (bcs b) ∧ (0 < b.length → ∀ a, Aj = some a → v.ownBlock ≠ some a.block)
theorem Gr.below {w w' : World} {B : Nat} {v : Value} {L : List (List UInt8)} (h : Gr w B v L) (hb : Below w.heap.size w w') : Gr w' B v L := by
  obtain ⟨xs, h1, h2⟩ := h
  have ht := L6.Turn.of_keep (S := fun _ => False) hb
  refine ⟨xs, ht.row h1 (fun _ _ h => h), fun j b hj => ?_⟩
  obtain ⟨Aj, cj, e, hr, hn⟩ := h2 j b hj
  exact ⟨Aj, cj, e, reads_kept hr ht hb.size (fun _ _ _ h => h), hn⟩
theorem Gr.lt {w : World} {B : Nat} {v : Value} {L : List (List UInt8)} (h : Gr w B v L) {k : Nat} (e : v.ownBlock = some k) : B ≤ k ∧ k < w.heap.size := by
  obtain ⟨xs, h1, _⟩ := h
  exact h1.lt k e
theorem Gr.rcp {w : World} {B : Nat} {v : Value} {L : List (List UInt8)} (h : Gr w B v L) : ∃ F c, v = .slice F L.length c ∧ RcP w (fun _ => True) F L := by
  obtain ⟨xs, h1, h2⟩ := h
  obtain ⟨F, c, rfl, _, _⟩ := L6.row_reads h1
  refine ⟨F, c, rfl, fun j b hj => ?_⟩
  obtain ⟨Aj, cj, e, hr, -⟩ := h2 j b hj
  obtain ⟨ad, u, hF, _, hx, hc⟩ := (L3.Reads.of_own h1).at_ (List.getElem?_eq_some_iff.1 hj).1
  rw [e] at hx
  injection hx with hx
  subst hx
  exact ⟨ad, Aj, cj, hF, trivial, hc, hr, fun _ _ _ => trivial⟩
/-- What has been made so far: the roll's records, the row, the bytes, the row of the bytes alone. -/
structure Gt (w0 : World) (fx fe fs fc : Bool) (Px Ps Pc : Nat → Prop) (Ax : Option Addr) (Lx : List (List UInt8)) (v : Value) (L : List (List UInt8)) (Bs : Option Addr) (l : List UInt8) (C : Option Addr) (cs : Nat) (w : World) : Prop where
  bw : Below w0.heap.size w0 w
  x : fx = true → RcP w Px Ax Lx
  e : fe = true → Gr w w0.heap.size v L
  s : fs = true → Reads w w.heap.size 1 Bs l.length (bcs l) ∧ (0 < l.length → ∀ a, Bs = some a → Ps a.block)
  c : fc = true → Reads w w.heap.size 1 C 1 [Value.slice Bs l.length cs] ∧ ∀ a, C = some a → Pc a.block
  ix : ∀ k, Px k → k < w.heap.size
  is_ : ∀ k, Ps k → k < w.heap.size
  ic : ∀ k, Pc k → k < w.heap.size
  xe : fe = true → ∀ k, Px k → v.ownBlock ≠ some k
  se : fe = true → ∀ k, Ps k → v.ownBlock ≠ some k
  ce : fe = true → ∀ k, Pc k → v.ownBlock ≠ some k
section
variable {w0 w w' : World} {fx fe fs fc : Bool} {Px Ps Pc : Nat → Prop} {Ax : Option Addr} {Lx L : List (List UInt8)} {v : Value} {Bs : Option Addr} {l : List UInt8} {C : Option Addr} {cs : Nat}
theorem Gt.start (hb : Below w0.heap.size w0 w) (l : List UInt8) (Lx : List (List UInt8)) : Gt w0 false false false false (fun _ => False) (fun _ => False) (fun _ => False) none Lx (.slice none 0 0) [] none l none 0 w :=
  ⟨hb, fun h => (by cases h), fun h => (by cases h), fun h => (by cases h), fun h => (by cases h), fun _ h => h.elim, fun _ h => h.elim, fun _ h => h.elim, fun h => (by cases h), fun h => (by cases h), fun h => (by cases h)⟩
theorem Gt.keep (h : Gt w0 fx fe fs fc Px Ps Pc Ax Lx v L Bs l C cs w) (hb : Below w.heap.size w w') : Gt w0 fx fe fs fc Px Ps Pc Ax Lx v L Bs l C cs w' := by
  have hz := hb.size
  have ht := L6.Turn.of_keep (S := fun _ => False) hb
  exact ⟨nxt h.bw hb, fun q => (h.x q).below hb, fun q => (h.e q).below hb, fun q => ⟨reads_kept (h.s q).1 ht hz (fun _ _ _ h => h), (h.s q).2⟩, fun q => ⟨reads_kept (h.c q).1 ht hz (fun _ _ _ h => h), (h.c q).2⟩,
    fun k hk => Nat.lt_of_lt_of_le (h.ix k hk) hz, fun k hk => Nat.lt_of_lt_of_le (h.is_ k hk) hz, fun k hk => Nat.lt_of_lt_of_le (h.ic k hk) hz, h.xe, h.se, h.ce⟩
theorem Gt.mkX {A : Option Addr} {M : List (List UInt8)} (h : Gt w0 false fe fs fc Px Ps Pc Ax Lx v L Bs l C cs w) (hr : RcP w' (fresh w w') A M) (hb : Below w.heap.size w w') : Gt w0 true fe fs fc (fresh w w') Ps Pc A M v L Bs l C cs w' := by
  have k := h.keep hb
  exact ⟨k.bw, fun _ => hr, k.e, k.s, k.c, fun _ hk => hk.2, k.is_, k.ic, fun q i hi ei => by have := ((h.e q).lt ei).2; have := hi.1; omega, k.se, k.ce⟩
theorem Gt.mkE (h : Gt w0 fx false fs fc Px Ps Pc Ax Lx v L Bs l C cs w) : Gt w0 fx true fs fc Px Ps Pc Ax Lx (.slice (some ⟨w.heap.size, 0, none⟩) 0 0) [] Bs l C cs (w.alloc (.cells #[] 53)) := by
  have hs := h.bw.size
  have k := h.keep (below_new w (.cells #[] 53))
  refine ⟨k.bw, k.x, fun _ => ⟨[], World.ownsRow_made w #[] 0 hs (by decide) rfl, fun j b hj => by simp at hj⟩, k.s, k.c, k.ix, k.is_, k.ic, fun _ i hi ei => ?_, fun _ i hi ei => ?_, fun _ i hi ei => ?_⟩
  · have := h.ix i hi; injection ei with ei; have e2 : w.heap.size = i := ei; omega
  · have := h.is_ i hi; injection ei with ei; have e2 : w.heap.size = i := ei; omega
  · have := h.ic i hi; injection ei with ei; have e2 : w.heap.size = i := ei; omega
theorem Gt.mkS (h : Gt w0 fx fe false false Px Ps Pc Ax Lx v L Bs l C cs w) (hr : Reads w' w'.heap.size 1 (some ⟨w.heap.size, 0, none⟩) l.length (bcs l)) (hb : Below w.heap.size w w') : Gt w0 fx fe true false Px (fresh w w') Pc Ax Lx v L (some ⟨w.heap.size, 0, none⟩) l C cs w' := by
  have k := h.keep hb
  refine ⟨k.bw, k.x, k.e, fun _ => ⟨hr, fun h0 a ea => ?_⟩, fun q => (by cases q), k.ix, fun _ hk => hk.2, k.ic, k.xe, fun q i hi ei => by have := ((h.e q).lt ei).2; have := hi.1; omega, k.ce⟩
  obtain ⟨ad, e, hlt, _⟩ := hr.2 h0
  injection ea with ea
  subst ea
  injection e with e
  rw [← e] at hlt
  exact ⟨Nat.le_refl _, hlt⟩
theorem Gt.mkC (c : Nat) (h : Gt w0 fx fe true false Px Ps Pc Ax Lx v L Bs l C cs w) : Gt w0 fx fe true true Px Ps (fun k => k = w.heap.size) Ax Lx v L Bs l (some ⟨w.heap.size, 0, none⟩) c (w.alloc (.cells #[.slice Bs l.length c] 53)) := by
  have hb := below_new w (.cells #[.slice Bs l.length c] 53)
  have k := h.keep hb
  have hr := row_read w #[.slice Bs l.length c] 53 (Nat.zero_lt_succ 0)
  refine ⟨k.bw, k.x, k.e, k.s, fun _ => ⟨hr, fun a ea => ?_⟩, k.ix, k.is_, fun i hi => ?_, k.xe, k.se, fun q i hi ei => ?_⟩
  · injection ea with ea; subst ea; rfl
  · obtain ⟨ad, e, hlt, _⟩ := hr.2 (Nat.zero_lt_succ 0)
    injection e with e
    rw [← e] at hlt
    rw [hi]
    exact hlt
  · have := ((h.e q).lt ei).2; omega
variable {ops : Array Oper} {rest : List Oper} {o : Oper} {a : Act} {Q : Exit → Act → World → Prop}
theorem Gt.grown {v' : Value} (h : Gt w0 fx true fs fc Px Ps Pc Ax Lx v L Bs l C cs w) (hg : w.grownBy w' v.ownBlock) : Below w0.heap.size w0 w' ∧ (fx = true → RcP w' Px Ax Lx) ∧ (fs = true → Reads w' w'.heap.size 1 Bs l.length (bcs l)) ∧ (fc = true → Reads w' w'.heap.size 1 C 1 [Value.slice Bs l.length cs]) ∧ w.heap.size ≤ w'.heap.size := by
  have ht : Turn (fun q => v.ownBlock = some q) w w' := L6.Turn.of_grown hg (fun i e => e)
  have hz := ht.size
  exact ⟨h.bw.grown hg h.bw.size (fun q e => ((h.e rfl).lt e).1), fun q => (h.x q).turn ht (fun k hk e => h.xe rfl k hk e), fun q => reads_kept (h.s q).1 ht hz (fun h0 a ea e => h.se rfl _ ((h.s q).2 h0 a ea) e), fun q => reads_kept (h.c q).1 ht hz (fun _ a ea e => h.ce rfl _ ((h.c q).2 a ea) e), hz⟩
/-- The records behind the empty row. -/
theorem wpList_app1 (hgd : Region.wanted o (yielded ops a.tmps) = true) (s x : Operand) (ho : o.op = .call { callee := .builtin .append, args := #[s, x], argTypes := #[55, 55] }) (hs : a.eval s = v)
    (A : Option Addr) (n c : Nat) (R : List (List UInt8)) (hn : n = R.length) (hx : a.eval x = .slice A n c) (h : Gt w0 fx true fs fc Px Ps Pc Ax Lx v [] Bs l C cs w) {Pr : Nat → Prop} (hR : ∀ W, Below w0.heap.size w0 W → RcP W Pr A R) (hP : ∀ k, Pr k → k < w0.heap.size) (hlim : R.length ≤ 100000000)
    (hQ : ∀ F cf w', Gt w0 fx true fs fc Px Ps Pc Ax Lx (.slice F n cf) R Bs l C cs w' → wpList Try.prog ops Q rest (a.put o.dst (.slice F n cf)) w') : wpList Try.prog ops Q (o :: rest) a w := by
  obtain ⟨i0, hi, hz0, hz1, hz2⟩ := by_info
  have hsz := h.bw.size
  obtain ⟨xs, hrd, hone, heach⟩ := rcp_heads (hR w h.bw) (fun k hk => Nat.lt_of_lt_of_le (hP k hk) hsz)
  obtain ⟨ys, hown, -⟩ := h.e rfl
  have hys : ys = [] := by have := hown.1; simpa using this
  subst hys
  subst hn
  refine wpList_append_met hgd s x 55 ho w0.heap.size 53 i0 _ 1 24 Try.underlying55 hi hz0 hz1 hz2 rfl (by decide) v 0 [] hs hown _ A R.length c xs hx hrd hone (by unfold maxLen; omega) (by omega) hsz (fun v' w' ho4 hg4 hat => ?_)
  obtain ⟨g1, g2, g3, g4, hz⟩ := Gt.grown (v' := v') h hg4
  have ht : Turn (fun q => v.ownBlock = some q) w w' := L6.Turn.of_grown hg4 (fun i e => e)
  have hlt : ∀ q, v.ownBlock = some q → w0.heap.size ≤ q ∧ q < w.heap.size := fun q e => (h.e rfl).lt e
  rw [List.nil_append, Nat.zero_add] at ho4
  have hgr : Gr w' w0.heap.size v' R := ⟨xs, ho4, fun j b hj => by
    obtain ⟨Aj, cj, e, hr, hn⟩ := heach j b hj
    exact ⟨Aj, cj, e, reads_kept hr ht hz (fun h0 a ea e => by have := (hlt _ e).1; have := hP _ (hn h0 a ea); omega), fun h0 a ea e => by have := (ho4.lt _ e).1; have := hP _ (hn h0 a ea); omega⟩⟩
  have hap : ∀ T : Nat → Prop, (∀ k, T k → k < w.heap.size) → (∀ k, T k → v.ownBlock ≠ some k) → ∀ k, T k → v'.ownBlock ≠ some k := fun T h1 h2 k hk e => by
    rcases hat with hv | hv
    · rw [hv] at e; exact h2 k hk e
    · rw [hv] at e; injection e with e; have := h1 k hk; omega
  have hG : Gt w0 fx true fs fc Px Ps Pc Ax Lx v' R Bs l C cs w' := ⟨g1, g2, fun _ => hgr, fun q => ⟨g3 q, (h.s q).2⟩, fun q => ⟨g4 q, (h.c q).2⟩, fun k hk => Nat.lt_of_lt_of_le (h.ix k hk) hz, fun k hk => Nat.lt_of_lt_of_le (h.is_ k hk) hz, fun k hk => Nat.lt_of_lt_of_le (h.ic k hk) hz, fun _ => hap _ h.ix (h.xe rfl), fun _ => hap _ h.is_ (h.se rfl), fun _ => hap _ h.ic (h.ce rfl)⟩
  obtain ⟨F, cf, hv, _⟩ := hgr.rcp
  subst hv
  exact hQ F cf w' hG
/-- The bytes alone behind them. -/
theorem wpList_app2 (hgd : Region.wanted o (yielded ops a.tmps) = true) (s x : Operand) (ho : o.op = .call { callee := .builtin .append, args := #[s, x], argTypes := #[55, 55] }) (hs : a.eval s = v)
    (c n : Nat) (hx : a.eval x = .slice C 1 c) (h : Gt w0 true true true true Px Ps Pc Ax Lx v L Bs l C cs w) (hn : n = L.length + 1) (hlim : L.length ≤ 100000000)
    (hQ : ∀ F cf w', RcP w' Px Ax Lx → RcP w' (fun _ => True) F (L ++ [l]) → Below w0.heap.size w0 w' → wpList Try.prog ops Q rest (a.put o.dst (.slice F n cf)) w') : wpList Try.prog ops Q (o :: rest) a w := by
  obtain ⟨i0, hi, hz0, hz1, hz2⟩ := by_info
  have hsz := h.bw.size
  obtain ⟨ys, hown, heach⟩ := h.e rfl
  have hyl : ys.length = L.length := by have := hown.1; omega
  subst hn
  refine wpList_append_met hgd s x 55 ho w0.heap.size 53 i0 _ 1 24 Try.underlying55 hi hz0 hz1 hz2 rfl (by decide) v L.length ys hs hown _ C 1 c _ hx (h.c rfl).1 (fun u hu => by simp at hu; subst hu; rfl) (by unfold maxLen; omega) (by omega) hsz (fun v' w' ho4 hg4 hat => ?_)
  obtain ⟨g1, g2, g3, g4, hz⟩ := Gt.grown (v' := v') h hg4
  have ht : Turn (fun q => v.ownBlock = some q) w w' := L6.Turn.of_grown hg4 (fun i e => e)
  obtain ⟨F, cf, hv, _, _⟩ := L6.row_reads ho4
  subst hv
  refine hQ F cf w' (g2 rfl) (fun j b hj => ?_) g1
  have hjl : j < L.length + 1 := by have := (List.getElem?_eq_some_iff.1 hj).1; rw [List.length_append] at this; simpa using this
  obtain ⟨ad, u, hF, _, hx', hc⟩ := (L3.Reads.of_own ho4).at_ hjl
  rcases Nat.lt_or_ge j L.length with hjk | hjk
  · rw [List.getElem?_append_left hjk] at hj
    obtain ⟨Aj, cj, e, hr, hn⟩ := heach j b hj
    rw [List.getElem?_append_left (by omega), e] at hx'
    injection hx' with hx'
    subst hx'
    exact ⟨ad, Aj, cj, hF, trivial, hc, reads_kept hr ht hz (fun h0 a ea e => hn h0 a ea e), fun _ _ _ => trivial⟩
  · obtain rfl : j = L.length := by omega
    rw [List.getElem?_append_right (Nat.le_refl _), Nat.sub_self] at hj
    have hb : l = b := Option.some.inj hj
    subst hb
    rw [List.getElem?_append_right (by omega), hyl, Nat.sub_self] at hx'
    have hu : Value.slice Bs l.length cs = u := Option.some.inj hx'
    subst hu
    exact ⟨ad, Bs, cs, hF, trivial, hc, g3 rfl, fun _ _ _ => trivial⟩
end
end Go.Proofs.Ythhjdielananeaa
