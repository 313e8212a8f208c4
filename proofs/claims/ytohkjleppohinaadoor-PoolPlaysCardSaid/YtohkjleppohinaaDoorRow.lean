/-
  A row of transactions in a block: one of them stored, the last ones cleared.
-/
import Derived.Test.YtohkjleppohinaaDoorTurnF
import Derived.Deep.MidRow
import Derived.Lib.SliceRun
set_option linter.unusedSimpArgs false
set_option linter.unusedVariables false
set_option maxRecDepth 10000
namespace Go.Proofs.YtohkjleppohinaaDoor
open Go.RowKit Go.Lib
open L3 (Blk Reads block_of_add add_of_add)
open L6 (Turn moreB fresh From In)

/-- Cells laid over others, from place o on. -/
def over (cs : Array Value) : Nat → List Value → Array Value
  | _, [] => cs
  | o, v :: r => over (cs.setIfInBounds o v) (o + 1) r
theorem over_size : ∀ (vs : List Value) (o : Nat) (cs : Array Value), (over cs o vs).size = cs.size
  | [], _, _ => rfl
  | v :: r, o, cs => by rw [over, over_size r]; simp
theorem over_out : ∀ (vs : List Value) (o : Nat) (cs : Array Value) (j : Nat), (j < o ∨ o + vs.length ≤ j) → (over cs o vs)[j]? = cs[j]?
  | [], _, _, _, _ => rfl
  | v :: r, o, cs, j, h => by
    rw [List.length_cons] at h
    rw [over, over_out r (o + 1) _ j (by omega), Array.getElem?_setIfInBounds, if_neg (by omega)]
theorem over_in : ∀ (vs : List Value) (o : Nat) (cs : Array Value) (j : Nat), o + vs.length ≤ cs.size → j < vs.length → (over cs o vs)[o + j]? = vs[j]?
  | v :: r, o, cs, 0, h, _ => by
    rw [List.length_cons] at h
    rw [over, over_out r (o + 1) _ _ (by omega), Array.getElem?_setIfInBounds, if_pos (by omega), if_pos (by omega)]
    rfl
  | v :: r, o, cs, j + 1, h, hj => by
    rw [List.length_cons] at h hj
    rw [over, show o + (j + 1) = o + 1 + j by omega, over_in r (o + 1) _ j (by simp; omega) (by omega)]
    rfl
theorem Blk.over {t : TypeId} {g : Nat} : ∀ (vs : List Value) (o : Nat) {w : World} {cs : Array Value}, Blk w g t cs → Blk (w.setCells g o vs) g t (over cs o vs)
  | [], _, _, _, h => h
  | v :: r, o, w, cs, h => Blk.over r (o + 1) (h.set_ o v)
theorem turn_cells (g : Nat) : ∀ (vs : List Value) (o : Nat) (w : World), Turn (fun k => k = g) w (w.setCells g o vs)
  | [], _, w => L6.Turn.refl _ _
  | v :: r, o, w => ((L6.Turn.refl (fun k => k = g) w).setCell (p := ⟨g, o, none⟩) (.inl rfl) v).trans (turn_cells g r (o + 1) _) (fun i hi => .inl hi)
/-- In block b of w these stand, in a row for so many. -/
def RowX (w : World) (b cap : Nat) (M : List Txx) : Prop :=
  ∃ cur : Array Value, Blk w b 35 cur ∧ cur.size = cap * 7 ∧ cap ≤ maxLen ∧ M.length ≤ cap ∧ ∀ i (h : i < M.length) c u, (txL M[i])[c]? = some u → cur[i * 7 + c]? = some u
theorem txL_lt {t : Txx} {c : Nat} {u : Value} (h : (txL t)[c]? = some u) : c < 7 := (List.getElem?_eq_some_iff.1 h).1
theorem RowX.turn {w w' : World} {b cap : Nat} {M : List Txx} {S : Nat → Prop} (h : RowX w b cap M) (ht : Turn S w w') (hs : ¬ S b) : RowX w' b cap M := by
  obtain ⟨cur, hb, h⟩ := h
  exact ⟨cur, ht.blk hb hs, h⟩
theorem RowX.below {w w' : World} {b cap : Nat} {M : List Txx} (h : RowX w b cap M) (hb : Below w.heap.size w w') : RowX w' b cap M := h.turn (S := fun _ => False) (L6.Turn.of_keep hb) (fun h => h)
theorem RowX.lt {w : World} {b cap : Nat} {M : List Txx} (h : RowX w b cap M) : b < w.heap.size := by obtain ⟨_, hb, _⟩ := h; exact hb.lt
theorem RowX.cells {w : World} {b cap : Nat} {M : List Txx} (h : RowX w b cap M) {i : Nat} (hi : i < M.length) : w.rangeAt b (i * 7) (txL M[i]) := by
  obtain ⟨cur, hb, _, _, _, hc⟩ := h
  intro j v hj
  rw [hb.cell]
  exact hc i hi j v hj
theorem RowX.there {w : World} {b cap : Nat} {M : List Txx} (h : RowX w b cap M) {i n : Nat} (hn : i * 7 + n ≤ cap * 7) : w.there b (i * 7) n := by
  obtain ⟨cur, hb, hs, _⟩ := h
  refine fun j hj => ⟨?_, hb.frozen _⟩
  rw [hb.cell, Array.getElem?_eq_getElem (by omega)]
  rfl
theorem RowX.store {w : World} {b cap : Nat} {M : List Txx} (h : RowX w b cap M) {i : Nat} (hi : i < M.length) (x : Txx) : RowX (w.setCells b (i * 7) (txL x)) b cap (M.set i x) := by
  obtain ⟨cur, hb, hs, hm, hl, hc⟩ := h
  refine ⟨over cur (i * 7) (txL x), Blk.over _ _ hb, by rw [over_size]; exact hs, hm, by simpa using hl, fun k hk c u hu => ?_⟩
  have h7 : (txL x).length = 7 := rfl
  rw [List.length_set] at hk
  have hc7 := txL_lt hu
  by_cases e : k = i
  · subst e
    rw [List.getElem_set_self] at hu
    rw [over_in _ _ _ _ (by omega) (by omega), hu]
  · rw [List.getElem_set_ne (fun h => e h.symm)] at hu
    rw [over_out _ _ _ _ (by omega)]
    exact hc k hk c u hu
/-- Behind a clearing of the last ones. -/
theorem RowX.cut {w : World} {b cap : Nat} {M : List Txx} (h : RowX w b cap M) (i : Nat) (vs : List Value) : RowX (w.setCells b (i * 7) vs) b cap (M.take i) := by
  obtain ⟨cur, hb, hs, hm, hl, hc⟩ := h
  refine ⟨over cur (i * 7) vs, Blk.over _ _ hb, by rw [over_size]; exact hs, hm, by rw [List.length_take]; omega, fun k hk c u hu => ?_⟩
  rw [List.length_take] at hk
  rw [List.getElem_take] at hu
  have hc7 := txL_lt hu
  rw [over_out _ _ _ _ (by omega)]
  exact hc k (by omega) c u hu
theorem RowX.take {w : World} {b cap : Nat} {M : List Txx} (h : RowX w b cap M) (i : Nat) : RowX w b cap (M.take i) := h.cut i []
/-- As a row that the call owns. -/
theorem RowX.row {w : World} {b cap base : Nat} {M : List Txx} (h : RowX w b cap M) (hb : base ≤ b) : w.ownsRow base 35 7 (.slice (some ⟨b, 0, none⟩) M.length cap) M.length (M.flatMap txL) := by
  obtain ⟨cur, hbk, hs, hm, hl, hc⟩ := h
  have hfl := flat_len (f := txL) (k := 7) (fun _ => rfl) M
  refine ⟨hfl, .inr ⟨b, cap, cur, rfl, hb, hbk, hl, hm, hs, ?_⟩⟩
  apply List.ext_getElem?
  intro j
  rcases Nat.lt_or_ge j (M.length * 7) with hj | hj
  · rw [List.getElem?_take, if_pos hj]
    have hq : j / 7 < M.length := by omega
    have hm7 := Nat.mod_lt j (show 0 < 7 by omega)
    have e : j = j / 7 * 7 + j % 7 := by omega
    have h1 : (M.flatMap txL)[j]? = (txL M[j / 7])[j % 7]? := by
      have := flat_get (f := txL) (k := 7) (fun _ => rfl) (L := M) hq hm7
      rw [← e] at this
      exact this
    have h2 : (txL M[j / 7])[j % 7]? = some ((txL M[j / 7])[j % 7]'hm7) := List.getElem?_eq_getElem hm7
    have h3 := hc (j / 7) hq (j % 7) _ h2
    rw [← e] at h3
    rw [h1, h2, ← h3]
    simp
  · rw [List.getElem?_take, if_neg (by omega), List.getElem?_eq_none (by omega)]
theorem row_of {w : World} {base : Nat} {v : Value} {L : List Txx} (h : w.ownsRow base 35 7 v L.length (L.flatMap txL)) (h0 : L ≠ []) : ∃ b cap, v = .slice (some ⟨b, 0, none⟩) L.length cap ∧ base ≤ b ∧ RowX w b cap L := by
  rcases h.2 with ⟨_, h1⟩ | ⟨b, cap, cur, rfl, hb, hk, h1, h2, h3, h4⟩
  · exact absurd (List.length_eq_zero_iff.1 h1) h0
  · refine ⟨b, cap, rfl, hb, cur, hk, h3, h2, h1, fun i hi c u hu => ?_⟩
    have hc7 := txL_lt hu
    have := flat_get (f := txL) (k := 7) (fun _ => rfl) (L := L) hi hc7
    rw [hu, ← h4, List.getElem?_take, if_pos (by omega)] at this
    simpa using this
theorem one_txL (a : Txx) : ∀ u ∈ txL a, u.oneCell' = true := by intro u hu; simp [txL] at hu; rcases hu with rfl | rfl | rfl | rfl | rfl | rfl | rfl <;> rfl
theorem zero_tx (w : World) : (zeroValue 35).run Tryd.prog w = .ok (.agg (txC zeroX)) w := Tryd.zeroValue35 w
/-- clear(s), of n > 0 transactions. -/
theorem run_clear_txs (w : World) (ty : TypeId) (b o n c : Nat) (hn : 0 < n) (ht : w.there b o (n * 7)) :
    ∃ vs, (Builtin.clear_ #[28] ty #[.slice (some ⟨b, o, none⟩) n c]).run Tryd.prog w = .ok (.tuple #[]) (w.setCells b o vs) := by
  obtain ⟨vs, hvs⟩ : ∃ vs, vs = (Builtin.zeroCells (txC zeroX) n).toList := ⟨_, rfl⟩
  have hl : vs.length = n * 7 := by rw [hvs]; simp [Builtin.zeroCells, txC]
  have hm : ∀ i, i < 7 → ((txC zeroX)[i]!).oneCell' = true := by
    intro i h
    match i, h with
    | 0, _ => rfl
    | 1, _ => rfl
    | 2, _ => rfl
    | 3, _ => rfl
    | 4, _ => rfl
    | 5, _ => rfl
    | 6, _ => rfl
  have h1 : ∀ v ∈ vs, v.oneCell' = true := by
    intro v hv
    rw [hvs] at hv
    simp only [Builtin.zeroCells] at hv
    obtain ⟨j, hj, rfl⟩ := List.getElem_of_mem hv
    simp only [Array.getElem_toList, Array.getElem_map, Array.getElem_range]
    exact hm _ (Nat.mod_lt _ (by decide))
  have hst := run_storeCells_cells (P := Tryd.prog) b o vs 0 w (fun j hj => by simpa using (ht j (by omega)).1) (fun j hj => by simpa using (ht j (by omega)).2) h1
  simp only [Nat.add_zero] at hst
  refine ⟨vs, ?_⟩
  obtain ⟨m, rfl⟩ : ∃ m, n = m + 1 := ⟨n - 1, by omega⟩
  have hv2 : (Builtin.zeroCells #[Value.int IntKind.i64 0, Value.string { data := #[] }, Value.string { data := #[] }, Value.string { data := #[] }, Value.string { data := #[] }, Value.int IntKind.i64 0, Value.int IntKind.i64 0] (m + 1)).toList = vs := hvs.symm
  simp [Builtin.clear_, run_underlying Tryd.underlying28, zero_tx, Value.cells, hv2, hst]
end Go.Proofs.YtohkjleppohinaaDoor
