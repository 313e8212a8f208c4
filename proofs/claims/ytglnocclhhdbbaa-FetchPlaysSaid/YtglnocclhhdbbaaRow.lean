/-
  Numbers that are wanted, as values; a row of them in a block: some of them laid over others, one of them turned, the last ones cleared.
-/
import Derived.Test.YtglnocclhhdbbaaRd
import Derived.Deep.MidRow
import Derived.Shelf.SlicesE.DeleteFunc
import Derived.Lib.SliceRun
import Derived.Laws.IdiomCopy
import Derived.Outline
set_option linter.unusedSimpArgs false
set_option linter.unusedVariables false
set_option maxRecDepth 10000
namespace Go.Proofs.Ytglnocclhhdbbaa
open Go.RowKit Go.Lib
open L3 (Blk Reads block_of_add add_of_add)
open L6 (Turn moreB fresh From In)

def wnL (x : Wnt) : List Value := [.int .i64 x.n, .int .i64 x.t]
def wnC (x : Wnt) : Array Value := #[.int .i64 x.n, .int .i64 x.t]
def zeroWn : Wnt := ⟨0, 0⟩
theorem wnL_len (x : Wnt) : (wnL x).length = 2 := rfl
theorem wnC_ones (x : Wnt) : (wnC x).all (·.oneCell') = true := by kernel_rfl
theorem wnInfo : (Try.prog.info? 63).map (·.size) = some 2 := by kernel_rfl
theorem one_wnL (a : Wnt) : ∀ u ∈ wnL a, u.oneCell' = true := by intro u hu; simp [wnL] at hu; rcases hu with rfl | rfl <;> rfl
theorem one_flat (L : List Wnt) : ∀ u ∈ L.flatMap wnL, u.oneCell' = true := by
  intro u hu
  obtain ⟨a, _, h⟩ := List.mem_flatMap.1 hu
  exact one_wnL a u h
theorem zero_wn (w : World) : (zeroValue 63).run Try.prog w = .ok (.agg (wnC zeroWn)) w := Try.zeroValue63 w
theorem flat_wn (L : List Wnt) : (L.flatMap wnL).length = L.length * 2 := flat_len (f := wnL) (k := 2) (fun _ => rfl) L

/-- Cells laid over others, from place o on. -/
def over (cs : Array Value) : Nat → List Value → Array Value
  | _, [] => cs
  | o, v :: r => over (cs.setIfInBounds o v) (o + 1) r
theorem over_size : ∀ (vs : List Value) (o : Nat) (cs : Array Value), (over cs o vs).size = cs.size
  | [], _, _ => rfl
  | v :: r, o, cs => by rw [over, over_size r]; simp
theorem over_out : ∀ (vs : List Value) (o : Nat) (cs : Array Value) (j : Nat), (j < o ∨ o + vs.length ≤ j) → (over cs o vs)[j]? = cs[j]?
  | [], _, _, _, _ => rfl
  | v :: r, o, cs, j, h => by
    rw [List.length_cons] at h
    rw [over, over_out r (o + 1) _ j (by omega), Array.getElem?_setIfInBounds, if_neg (by omega)]
theorem over_in : ∀ (vs : List Value) (o : Nat) (cs : Array Value) (j : Nat), o + vs.length ≤ cs.size → j < vs.length → (over cs o vs)[o + j]? = vs[j]?
  | v :: r, o, cs, 0, h, _ => by
    rw [List.length_cons] at h
    rw [over, over_out r (o + 1) _ _ (by omega), Array.getElem?_setIfInBounds, if_pos (by omega), if_pos (by omega)]
    rfl
  | v :: r, o, cs, j + 1, h, hj => by
    rw [List.length_cons] at h hj
    rw [over, show o + (j + 1) = o + 1 + j by omega, over_in r (o + 1) _ j (by simp; omega) (by omega)]
    rfl
theorem Blk.over {t : TypeId} {g : Nat} : ∀ (vs : List Value) (o : Nat) {w : World} {cs : Array Value}, Blk w g t cs → Blk (w.setCells g o vs) g t (over cs o vs)
  | [], _, _, _, h => h
  | v :: r, o, w, cs, h => Blk.over r (o + 1) (h.set_ o v)
theorem turn_cells (g : Nat) : ∀ (vs : List Value) (o : Nat) (w : World), Turn (fun k => k = g) w (w.setCells g o vs)
  | [], _, w => L6.Turn.refl _ _
  | v :: r, o, w => ((L6.Turn.refl (fun k => k = g) w).setCell (p := ⟨g, o, none⟩) (.inl rfl) v).trans (turn_cells g r (o + 1) _) (fun i hi => .inl hi)
/-- In block b of w these stand, in a row for so many. -/
def RowW (w : World) (b cap : Nat) (M : List Wnt) : Prop :=
  ∃ cur : Array Value, Blk w b 63 cur ∧ cur.size = cap * 2 ∧ cap ≤ maxLen ∧ M.length ≤ cap ∧ ∀ i (h : i < M.length) c u, (wnL M[i])[c]? = some u → cur[i * 2 + c]? = some u
theorem wnL_lt {t : Wnt} {c : Nat} {u : Value} (h : (wnL t)[c]? = some u) : c < 2 := (List.getElem?_eq_some_iff.1 h).1
theorem RowW.turn {w w' : World} {b cap : Nat} {M : List Wnt} {S : Nat → Prop} (h : RowW w b cap M) (ht : Turn S w w') (hs : ¬ S b) : RowW w' b cap M := by
  obtain ⟨cur, hb, h⟩ := h
  exact ⟨cur, ht.blk hb hs, h⟩
theorem RowW.below {w w' : World} {b cap : Nat} {M : List Wnt} (h : RowW w b cap M) (hb : Below w.heap.size w w') : RowW w' b cap M := h.turn (S := fun _ => False) (L6.Turn.of_keep hb) (fun h => h)
theorem RowW.drew {w : World} {b cap : Nat} {M : List Wnt} (h : RowW w b cap M) : RowW w.drew b cap M := h.below (Below.refl _ _).drew
theorem RowW.lt {w : World} {b cap : Nat} {M : List Wnt} (h : RowW w b cap M) : b < w.heap.size := by obtain ⟨_, hb, _⟩ := h; exact hb.lt
theorem RowW.le {w : World} {b cap : Nat} {M : List Wnt} (h : RowW w b cap M) : cap ≤ maxLen ∧ M.length ≤ cap := by obtain ⟨_, _, _, h1, h2, _⟩ := h; exact ⟨h1, h2⟩
theorem RowW.cells {w : World} {b cap : Nat} {M : List Wnt} (h : RowW w b cap M) {i : Nat} (hi : i < M.length) : w.rangeAt b (i * 2) (wnL M[i]) := by
  obtain ⟨cur, hb, _, _, _, hc⟩ := h
  intro j v hj
  rw [hb.cell]
  exact hc i hi j v hj
theorem RowW.there {w : World} {b cap : Nat} {M : List Wnt} (h : RowW w b cap M) {i n : Nat} (hn : i * 2 + n ≤ cap * 2) : w.there b (i * 2) n := by
  obtain ⟨cur, hb, hs, _⟩ := h
  refine fun j hj => ⟨?_, hb.frozen _⟩
  rw [hb.cell, Array.getElem?_eq_getElem (by omega)]
  rfl
/-- The cells from the i-th on. -/
theorem RowW.from_ {w : World} {b cap : Nat} {M : List Wnt} (h : RowW w b cap M) (i : Nat) : ∀ j u, ((M.drop i).flatMap wnL)[j]? = some u → w.cell? ⟨b, i * 2 + j, none⟩ = some u := by
  intro j u hj
  have hjl : j < (M.drop i).length * 2 := by
    have := (List.getElem?_eq_some_iff.1 hj).1
    rwa [flat_wn] at this
  have hq : j / 2 < (M.drop i).length := by omega
  have hm := Nat.mod_lt j (show 0 < 2 by omega)
  have e : j = j / 2 * 2 + j % 2 := by omega
  have h1 := flat_get (f := wnL) (k := 2) (fun _ => rfl) (L := M.drop i) hq hm
  rw [← e, hj, List.getElem_drop] at h1
  rw [List.length_drop] at hq
  have := h.cells (i := i + j / 2) (by omega) (j % 2) u h1.symm
  rw [show (i + j / 2) * 2 + j % 2 = i * 2 + j by omega] at this
  exact this
/-- Some laid over what stands there, from the j-th on. -/
theorem RowW.lay {w : World} {b cap : Nat} {M : List Wnt} (h : RowW w b cap M) {j : Nat} (hj : j ≤ M.length) {F : List Wnt} (hf : j + F.length ≤ cap) : RowW (w.setCells b (j * 2) (F.flatMap wnL)) b cap (M.take j ++ F ++ M.drop (j + F.length)) := by
  obtain ⟨cur, hb, hs, hm, hl, hc⟩ := h
  have hfl := flat_wn F
  refine ⟨over cur (j * 2) (F.flatMap wnL), Blk.over _ _ hb, by rw [over_size]; exact hs, hm, by simp only [List.length_append, List.length_take, List.length_drop]; omega, fun k hk c u hu => ?_⟩
  have hc2 := wnL_lt hu
  have htl : (M.take j).length = j := by rw [List.length_take]; omega
  rcases Nat.lt_or_ge k j with h1 | h1
  · have e : (M.take j ++ F ++ M.drop (j + F.length))[k]'hk = M[k]'(by omega) := by
      simp only [List.append_assoc]
      rw [List.getElem_append_left (by omega), List.getElem_take]
    rw [e] at hu
    rw [over_out _ _ _ _ (by omega)]
    exact hc k (by omega) c u hu
  · rcases Nat.lt_or_ge k (j + F.length) with h2 | h2
    · have e : (M.take j ++ F ++ M.drop (j + F.length))[k]'hk = F[k - j]'(by omega) := by
        rw [List.getElem_append_left (by rw [List.length_append]; omega), List.getElem_append_right (by omega)]
        congr 1
        omega
      rw [e] at hu
      have h3 := flat_get (f := wnL) (k := 2) (fun _ => rfl) (L := F) (i := k - j) (by omega) hc2
      rw [show k * 2 + c = j * 2 + ((k - j) * 2 + c) by omega, over_in _ _ _ _ (by omega) (by omega), h3, hu]
    · rw [List.length_append, List.length_append, htl, List.length_drop] at hk
      have e : (M.take j ++ F ++ M.drop (j + F.length))[k]'(by simp only [List.length_append, htl, List.length_drop]; omega) = M[k]'(by omega) := by
        rw [List.getElem_append_right (by rw [List.length_append]; omega), List.getElem_drop]
        congr 1
        rw [List.length_append]
        omega
      rw [e] at hu
      rw [over_out _ _ _ _ (by omega)]
      exact hc k (by omega) c u hu
theorem RowW.store {w : World} {b cap : Nat} {M : List Wnt} (h : RowW w b cap M) {i : Nat} (hi : i < M.length) (x : Wnt) : RowW (w.setCells b (i * 2) (wnL x)) b cap (M.set i x) := by
  have hl := h.le.2
  have h1 := h.lay (j := i) (by omega) (F := [x]) (by simp; omega)
  have e1 : ([x] : List Wnt).flatMap wnL = wnL x := by simp
  have e2 : M.take i ++ [x] ++ M.drop (i + ([x] : List Wnt).length) = M.set i x := by rw [List.set_eq_take_append_cons_drop, if_pos hi]; simp
  rw [e1, e2] at h1
  exact h1
/-- How often one was asked for has turned. -/
theorem RowW.tick {w : World} {b cap : Nat} {M : List Wnt} (h : RowW w b cap M) {i : Nat} (hi : i < M.length) (t : Int) : RowW (w.setCell ⟨b, i * 2 + 1, none⟩ (.int .i64 t)) b cap (M.set i ⟨M[i].n, t⟩) := by
  obtain ⟨cur, hb, hs, hm, hl, hc⟩ := h
  refine ⟨cur.setIfInBounds (i * 2 + 1) (.int .i64 t), hb.set_ _ _, by simpa using hs, hm, by simpa using hl, fun k hk0 c u hu => ?_⟩
  have hk : k < M.length := by simpa using hk0
  have hc2 := wnL_lt hu
  rw [Array.getElem?_setIfInBounds]
  by_cases e : k = i
  · subst e
    rw [List.getElem_set_self] at hu
    match c, hc2, hu with
    | 0, _, hu =>
      rw [if_neg (by omega)]
      exact hc k hk 0 u hu
    | 1, _, hu =>
      rw [if_pos rfl, if_pos (by omega)]
      exact hu
  · rw [List.getElem_set_ne (fun h => e h.symm)] at hu
    rw [if_neg (by omega)]
    exact hc k hk c u hu
/-- Behind a clearing of the last ones. -/
theorem RowW.cut {w : World} {b cap : Nat} {M : List Wnt} (h : RowW w b cap M) (i : Nat) (vs : List Value) : RowW (w.setCells b (i * 2) vs) b cap (M.take i) := by
  obtain ⟨cur, hb, hs, hm, hl, hc⟩ := h
  refine ⟨over cur (i * 2) vs, Blk.over _ _ hb, by rw [over_size]; exact hs, hm, by rw [List.length_take]; omega, fun k hk c u hu => ?_⟩
  rw [List.length_take] at hk
  rw [List.getElem_take] at hu
  have hc2 := wnL_lt hu
  rw [over_out _ _ _ _ (by omega)]
  exact hc k (by omega) c u hu
theorem RowW.take {w : World} {b cap : Nat} {M : List Wnt} (h : RowW w b cap M) (i : Nat) : RowW w b cap (M.take i) := h.cut i []
/-- As a row that the call owns. -/
theorem RowW.row {w : World} {b cap base : Nat} {M : List Wnt} (h : RowW w b cap M) (hb : base ≤ b) : w.ownsRow base 63 2 (.slice (some ⟨b, 0, none⟩) M.length cap) M.length (M.flatMap wnL) := by
  obtain ⟨cur, hbk, hs, hm, hl, hc⟩ := h
  have hfl := flat_wn M
  refine ⟨hfl, .inr ⟨b, cap, cur, rfl, hb, hbk, hl, hm, hs, ?_⟩⟩
  apply List.ext_getElem?
  intro j
  rcases Nat.lt_or_ge j (M.length * 2) with hj | hj
  · rw [List.getElem?_take, if_pos hj]
    have hq : j / 2 < M.length := by omega
    have hm2 := Nat.mod_lt j (show 0 < 2 by omega)
    have e : j = j / 2 * 2 + j % 2 := by omega
    have h1 : (M.flatMap wnL)[j]? = (wnL M[j / 2])[j % 2]? := by
      have := flat_get (f := wnL) (k := 2) (fun _ => rfl) (L := M) hq hm2
      rw [← e] at this
      exact this
    have h2 : (wnL M[j / 2])[j % 2]? = some ((wnL M[j / 2])[j % 2]'hm2) := List.getElem?_eq_getElem hm2
    have h3 := hc (j / 2) hq (j % 2) _ h2
    rw [← e] at h3
    rw [h1, h2, ← h3]
    simp
  · rw [List.getElem?_take, if_neg (by omega), List.getElem?_eq_none (by omega)]
theorem row_of {w : World} {base : Nat} {v : Value} {L : List Wnt} (h : w.ownsRow base 63 2 v L.length (L.flatMap wnL)) (h0 : L ≠ []) : ∃ b cap, v = .slice (some ⟨b, 0, none⟩) L.length cap ∧ base ≤ b ∧ RowW w b cap L := by
  rcases h.2 with ⟨_, h1⟩ | ⟨b, cap, cur, rfl, hb, hk, h1, h2, h3, h4⟩
  · exact absurd (List.length_eq_zero_iff.1 h1) h0
  · refine ⟨b, cap, rfl, hb, cur, hk, h3, h2, h1, fun i hi c u hu => ?_⟩
    have hc2 := wnL_lt hu
    have := flat_get (f := wnL) (k := 2) (fun _ => rfl) (L := L) hi hc2
    rw [hu, ← h4, List.getElem?_take, if_pos (by omega)] at this
    simpa using this
theorem RowW.rd {w : World} {b cap : Nat} {M : List Wnt} (h : RowW w b cap M) : Rd wnL 2 w (some ⟨b, 0, none⟩) M := fun i hi => by
  refine ⟨_, rfl, h.lt, fun j u hj => ?_⟩
  rw [Addr.add_lit, Addr.add_lit, Nat.zero_add]
  exact h.cells hi j u hj
/-- clear(s), of n > 0 of them. -/
theorem run_clear_wn (w : World) (ty : TypeId) (b o n c : Nat) (hn : 0 < n) (ht : w.there b o (n * 2)) :
    ∃ vs, (Builtin.clear_ #[56] ty #[.slice (some ⟨b, o, none⟩) n c]).run Try.prog w = .ok (.tuple #[]) (w.setCells b o vs) := by
  obtain ⟨vs, hvs⟩ : ∃ vs, vs = (Builtin.zeroCells (wnC zeroWn) n).toList := ⟨_, rfl⟩
  have hl : vs.length = n * 2 := by rw [hvs]; simp [Builtin.zeroCells, wnC]
  have hm : ∀ i, i < 2 → ((wnC zeroWn)[i]!).oneCell' = true := by
    intro i h
    match i, h with
    | 0, _ => rfl
    | 1, _ => rfl
  have h1 : ∀ v ∈ vs, v.oneCell' = true := by
    intro v hv
    rw [hvs] at hv
    simp only [Builtin.zeroCells] at hv
    obtain ⟨j, hj, rfl⟩ := List.getElem_of_mem hv
    simp only [Array.getElem_toList, Array.getElem_map, Array.getElem_range]
    exact hm _ (Nat.mod_lt _ (by decide))
  have hst := run_storeCells_cells (P := Try.prog) b o vs 0 w (fun j hj => by simpa using (ht j (by omega)).1) (fun j hj => by simpa using (ht j (by omega)).2) h1
  simp only [Nat.add_zero] at hst
  refine ⟨vs, ?_⟩
  obtain ⟨m, rfl⟩ : ∃ m, n = m + 1 := ⟨n - 1, by omega⟩
  have hv2 : (Builtin.zeroCells #[Value.int IntKind.i64 0, Value.int IntKind.i64 0] (m + 1)).toList = vs := hvs.symm
  simp [Builtin.clear_, run_underlying Try.underlying56, zero_wn, Value.cells, hv2, hst]
/-- copy(d, s) at elements of whatever size: all is read before anything is written. -/
theorem run_copy_sized {P : Program} (w : World) (dT sT ty elem : TypeId) (size b o dLen dCap : Nat) (a : Addr) (sLen sCap m : Nat) (cs : List Value)
    (hu : P.underlying dT = some (.slice elem)) (hs : (P.info? elem).map (·.size) = some size) (hn : Nat.min sLen dLen = m) (hl : cs.length = m * size)
    (hsrc : ∀ j v, cs[j]? = some v → w.cell? (a.add j) = some v) (hc : ∀ j, j < cs.length → (w.cell? ⟨b, o + j, none⟩).isSome = true) (hf : ∀ j, j < cs.length → w.frozen? ⟨b, o + j, none⟩ = false) (h1 : ∀ v ∈ cs, v.oneCell' = true) :
    (Builtin.copy_ #[dT, sT] ty #[.slice (some ⟨b, o, none⟩) dLen dCap, .slice (some a) sLen sCap]).run P w = .ok (goInt m) (w.setCells b o cs) := by
  have hst := run_storeCells_cells (P := P) b o cs 0 w (by simpa using hc) (by simpa using hf) h1
  have hfc := run_firstCells_some (P := P) w size m a sLen sCap cs hl hsrc
  cases hq : P.info? elem with
  | none => simp [hq] at hs
  | some i =>
    have hi : i.size = size := by simpa [hq] using hs
    have hn2 : min sLen dLen = m := hn
    simp [Builtin.copy_, run_underlying hu, Builtin.lenOf, sizeOf, typeInfo, hq, hi, hn2, hfc, hst]
end Go.Proofs.Ytglnocclhhdbbaa
