/-
  Bytes in a slice that is cut at both ends: one more behind them, those ahead of a place let go, those from a place on taken back.
-/
import Derived.Test.YthhjdielananeaaL6Foot
import Derived.Test.YthhjdielananeaaTp
import Derived.Deep.AppendSrc
import Derived.Lib.Hide
import Derived.Lib.ConvBytes
import Derived.Lib.LazyBuf
import Derived.Lib.UnsafeStr
set_option linter.unusedSimpArgs false
set_option linter.unusedVariables false
set_option maxRecDepth 10000
namespace Go.Proofs.Ythhjdielananeaa
open Go.RowKit
open L3 (Blk Reads block_of_add add_of_add)
open L6 (Turn moreB fresh From In)

abbrev bcs (l : List UInt8) : List Value := Lib.byteCells l
theorem bcs_len (l : List UInt8) : (bcs l).length = l.length := by simp [Lib.byteCells]
theorem bcs_get (l : List UInt8) (j : Nat) (h : j < l.length) : (bcs l)[j]? = some (.int .u8 l[j].toNat) := by simp [Lib.byteCells, h]
theorem bcs_one (l : List UInt8) : ∀ u ∈ bcs l, u.oneCell' = true := by
  intro u hu
  simp only [Lib.byteCells, List.mem_map] at hu
  obtain ⟨b, _, rfl⟩ := hu
  rfl
/-- In w the slice v holds l: nil, or somewhere in a block of bytes with room behind it. -/
def Bts (w : World) (v : Value) (l : List UInt8) : Prop :=
  (v = .slice none 0 0 ∧ l = []) ∨ ∃ g o c cur, v = .slice (some ⟨g, o, none⟩) l.length c ∧ Blk w g 5 cur ∧ l.length ≤ c ∧ o + c ≤ cur.size ∧ c ≤ maxLen ∧ ∀ j (h : j < l.length), cur[o + j]? = some (.int .u8 l[j].toNat)
theorem Bts.nil (w : World) : Bts w (.slice none 0 0) [] := .inl ⟨rfl, rfl⟩
theorem Bts.shape {w : World} {v : Value} {l : List UInt8} (h : Bts w v l) : ∃ A c, v = .slice A l.length c ∧ Reads w w.heap.size 1 A l.length (bcs l) ∧ l.length ≤ c ∧ c ≤ maxLen := by
  rcases h with ⟨rfl, rfl⟩ | ⟨g, o, c, cur, rfl, hb, h1, h2, h3, hc⟩
  · exact ⟨none, 0, rfl, Reads.none_, Nat.le_refl _, Nat.zero_le _⟩
  · refine ⟨_, c, rfl, ⟨by rw [bcs_len, Nat.mul_one], fun _ => ⟨_, rfl, hb.lt, fun j u hu => ?_⟩⟩, h1, h3⟩
    have hj : j < l.length := by have := (List.getElem?_eq_some_iff.1 hu).1; rwa [bcs_len] at this
    rw [Addr.add_lit, hb.cell, hc j hj, ← hu, bcs_get l j hj]
theorem Bts.reads {w : World} {A : Option Addr} {c : Nat} {l : List UInt8} (h : Bts w (.slice A l.length c) l) : Reads w w.heap.size 1 A l.length (bcs l) ∧ l.length ≤ c ∧ c ≤ maxLen := by
  obtain ⟨A', c', e, h1, h2, h3⟩ := h.shape
  injection e with e1 _ e3
  subst e1 e3
  exact ⟨h1, h2, h3⟩
theorem Bts.turn {w w' : World} {v : Value} {l : List UInt8} {S : Nat → Prop} (h : Bts w v l) (ht : Turn S w w') (hs : ∀ k, v.ownBlock = some k → ¬ S k) : Bts w' v l := by
  rcases h with h | ⟨g, o, c, cur, rfl, hb, h⟩
  · exact .inl h
  · exact .inr ⟨g, o, c, cur, rfl, ht.blk hb (hs g rfl), h⟩
theorem Bts.lt {w : World} {v : Value} {l : List UInt8} (h : Bts w v l) : ∀ k, v.ownBlock = some k → k < w.heap.size := by
  intro k hk
  rcases h with ⟨rfl, _⟩ | ⟨g, o, c, cur, rfl, hb, _⟩
  · simp [Value.ownBlock] at hk
  · have : g = k := by simpa [Value.ownBlock] using hk
    exact this ▸ hb.lt
theorem Bts.ne {w : World} {v : Value} {l : List UInt8} {g : Nat} {t : TypeId} {cs : Array Value} (h : Bts w v l) (hb : Blk w g t cs) (hne : 5 ≠ t) : v.ownBlock ≠ some g := by
  rcases h with ⟨rfl, _⟩ | ⟨g', o, c, cur, rfl, hb', _⟩
  · simp [Value.ownBlock]
  · intro he
    have : g' = g := by simpa [Value.ownBlock] using he
    exact hb'.ne_ hb hne this
/-- Those ahead of the k-th are let go. -/
theorem Bts.shed {w : World} {A : Option Addr} {c : Nat} {l : List UInt8} {k : Nat} (h : Bts w (.slice A l.length c) l) (hk : k ≤ l.length) :
    Bts w (.slice (if c = k then A else A.map (·.add k)) (l.length - k) (c - k)) (l.drop k) ∧ (Value.slice (if c = k then A else A.map (·.add k)) (l.length - k) (c - k)).ownBlock = (Value.slice A l.length c).ownBlock := by
  rcases h with ⟨e, rfl⟩ | ⟨g, o, c', cur, e, hb, h1, h2, h3, hc⟩
  · injection e with e1 e2 e3
    subst e1 e3
    obtain rfl : k = 0 := by simpa using hk
    exact ⟨.inl ⟨rfl, rfl⟩, rfl⟩
  · injection e with e1 e2 e3
    subst e1 e3
    by_cases hck : c = k
    · subst hck
      obtain hl : l.length = c := by omega
      refine ⟨.inr ⟨g, o, 0, cur, ?_, hb, ?_, by omega, Nat.zero_le _, fun j hj => ?_⟩, ?_⟩
      · rw [if_pos rfl, List.length_drop, Nat.sub_self]
      · rw [List.length_drop]; omega
      · rw [List.length_drop] at hj; omega
      · rw [if_pos rfl]; rfl
    · rw [if_neg hck]
      refine ⟨.inr ⟨g, o + k, c - k, cur, ?_, hb, ?_, by omega, by omega, fun j hj => ?_⟩, ?_⟩
      · rw [List.length_drop]
        show Value.slice (some (Addr.add ⟨g, o, none⟩ k)) _ _ = _
        rw [Addr.add_lit]
      · rw [List.length_drop]; omega
      · rw [List.length_drop] at hj
        rw [Nat.add_assoc, hc (k + j) (by omega), List.getElem_drop]
      · show some (Addr.add ⟨g, o, none⟩ k).block = some g
        rw [block_of_add]
/-- Those from the k-th on are taken back. -/
theorem Bts.back {w : World} {A : Option Addr} {c : Nat} {l : List UInt8} {k : Nat} (h : Bts w (.slice A l.length c) l) (hk : k ≤ l.length) : Bts w (.slice A k c) (l.take k) := by
  have hl : (l.take k).length = k := by rw [List.length_take]; omega
  rcases h with ⟨e, rfl⟩ | ⟨g, o, c', cur, e, hb, h1, h2, h3, hc⟩
  · injection e with e1 e2 e3
    subst e1 e3
    obtain rfl : k = 0 := by simpa using hk
    exact .inl ⟨rfl, rfl⟩
  · injection e with e1 e2 e3
    subst e1 e3
    refine .inr ⟨g, o, c, cur, by rw [hl], hb, by rw [hl]; omega, h2, h3, fun j hj => ?_⟩
    rw [hl] at hj
    rw [hc j (by omega), List.getElem_take]

theorem u8Info : (Try.prog.info? 5).map (fun i => (i.zero, i.size, i.bytes)) = some (some (.int .u8 0), 1, 1) := by kernel_rfl
theorem u8_info : ∃ i, Try.prog.info? 5 = some i ∧ i.zero = some (.int .u8 0) ∧ i.size = 1 ∧ i.bytes = 1 := by
  have h := u8Info
  cases hi : Try.prog.info? 5 with
  | none => rw [hi] at h; cases h
  | some i =>
    rw [hi] at h
    simp at h
    exact ⟨i, rfl, h.1, h.2.1, h.2.2⟩
/-- One byte more behind them. -/
theorem run_append_bts (w : World) (ty : TypeId) {v : Value} {l : List UInt8} (h : Bts w v l) (x : UInt8) (ad : Addr) (c0 : Nat) (hx : w.cell? ad = some (.int .u8 x.toNat)) (hn : l.length ≤ 1000000000) :
    ∃ v' w', (Builtin.append_ #[53, 53] ty #[v, .slice (some ad) 1 c0]).run Try.prog w = .ok v' w' ∧ Bts w' v' (l ++ [x]) ∧ Turn (fun k => v.ownBlock = some k) w w' ∧ (v'.ownBlock = v.ownBlock ∨ v'.ownBlock = some w.heap.size) := by
  obtain ⟨i, hi, hz, hs, hby⟩ := u8_info
  have ht : Try.prog.underlying 53 = some (.slice 5) := Try.underlying53
  have hl1 : (l ++ [x]).length = l.length + 1 := by simp
  have hsrc : Src Try.prog 1 53 (.slice (some ad) 1 c0) 1 [.int .u8 x.toNat] w := Src.ofSlice w ht ad 1 c0 _ rfl (fun j u hu => by
    match j, hu with
    | 0, hu =>
      simp at hu
      subst hu
      have e : ad.add 0 = ad := by simp [Addr.add]
      rw [e]; exact hx
    | j + 1, hu => simp at hu) (by intro u hu; simp at hu; subst hu; rfl)
  -- a new row
  have grow : ∀ (A : Option Addr) (c : Nat), v = .slice A l.length c → c < l.length + 1 → (Builtin.firstCells 1 l.length (.slice A l.length c)).run Try.prog w.drew = .ok (bcs l).toArray w.drew →
      ∃ v' w', (Builtin.append_ #[53, 53] ty #[v, .slice (some ad) 1 c0]).run Try.prog w = .ok v' w' ∧ Bts w' v' (l ++ [x]) ∧ Turn (fun k => v.ownBlock = some k) w w' ∧ (v'.ownBlock = v.ownBlock ∨ v'.ownBlock = some w.heap.size) := by
    rintro A c rfl hc hold
    have hrun := run_append_grow_src (P := Try.prog) w 53 53 ty 5 i (.int .u8 0) ht hi hz A l.length c (bcs l) (by rw [hs]; exact hold) (.slice (some ad) 1 c0) 1 [.int .u8 x.toNat] (by rw [hs]; exact hsrc) hc (by omega) (growslice_fits hc (by rw [hby]; omega))
    have hge := grownCap_ge w (l.length + 1) c 5
    have hcm := grownCap_le_maxLen w (l.length + 1) c 5 (by unfold maxLen; omega)
    refine ⟨_, _, hrun, .inr ⟨w.heap.size, 0, _, _, by rw [hl1], heap_alloc_new w.drew _, by omega, ?_, hcm, fun j hj => ?_⟩, L6.Turn.of_keep (Below.alloc (Below.refl _ _).drew (Nat.le_refl _) _), .inr rfl⟩
    · rw [Array.size_append, size_zeroCells]
      simp only [List.size_toArray, List.length_append, bcs_len, List.length_singleton]
      have : (Value.int IntKind.u8 0).cells.size = 1 := rfl
      rw [this]; omega
    · rw [hl1] at hj
      rw [Nat.zero_add, Array.getElem?_append_left (by simp only [List.size_toArray, List.length_append, bcs_len, List.length_singleton]; omega), List.getElem?_toArray]
      rcases Nat.lt_or_ge j l.length with h1 | h1
      · rw [List.getElem?_append_left (by rw [bcs_len]; exact h1), bcs_get l j h1, List.getElem_append_left h1]
      · obtain rfl : j = l.length := by omega
        rw [List.getElem?_append_right (by rw [bcs_len]; omega), bcs_len, Nat.sub_self, List.getElem_append_right (Nat.le_refl _)]
        simp
  rcases h with ⟨rfl, rfl⟩ | ⟨g, o, c, cur, rfl, hb, h1, h2, h3, hc⟩
  · exact grow none 0 rfl (by simp) (run_firstCells_none w.drew 1 0 0 0)
  · rcases Nat.lt_or_ge c (l.length + 1) with hr | hr
    · refine grow (some ⟨g, o, none⟩) c rfl hr (run_firstCells_some _ 1 l.length _ l.length c (bcs l) (by rw [bcs_len, Nat.mul_one]) fun j u hu => ?_)
      have hj : j < l.length := by have := (List.getElem?_eq_some_iff.1 hu).1; rwa [bcs_len] at this
      have hb' : Blk w.drew g 5 cur := hb
      rw [Addr.add_lit, hb'.cell, hc j hj, ← hu, bcs_get l j hj]
    · have hcell : w.cell? ⟨g, o + l.length * i.size + 0, none⟩ = cur[o + l.length * i.size + 0]? := hb.cell _
      have hrun := run_append_room_src (P := Try.prog) w 53 53 ty 5 i ht hi g o l.length c (.slice (some ad) 1 c0) 1 [.int .u8 x.toNat] (by rw [hs]; exact hsrc) hr
        (fun j hj => by
          obtain rfl : j = 0 := by simpa using hj
          rw [hcell, hs, Array.getElem?_eq_getElem (by omega)]; rfl)
        (fun j hj => hb.frozen _)
      rw [hs, Nat.mul_one] at hrun
      have hw : w.setCells g (o + l.length) [.int .u8 x.toNat] = w.setCell ⟨g, o + l.length, none⟩ (.int .u8 x.toNat) := rfl
      rw [hw] at hrun
      refine ⟨_, _, hrun, .inr ⟨g, o, c, cur.setIfInBounds (o + l.length) (.int .u8 x.toNat), by rw [hl1], hb.set_ _ _, by omega, by simpa using h2, h3, fun j hj => ?_⟩, (L6.Turn.refl (fun k => (Value.slice (some ⟨g, o, none⟩) l.length c).ownBlock = some k) w).setCell (p := ⟨g, o + l.length, none⟩) (.inl rfl) _, .inl rfl⟩
      rw [hl1] at hj
      rw [Array.getElem?_setIfInBounds]
      rcases Nat.lt_or_ge j l.length with h4 | h4
      · rw [if_neg (by omega), hc j h4, List.getElem_append_left h4]
      · obtain rfl : j = l.length := by omega
        rw [if_pos rfl, if_pos (by omega), List.getElem_append_right (Nat.le_refl _)]
        simp
/-- At the operation. -/
theorem wpList_append_bts {ops : Array Oper} {rest : List Oper} {o : Oper} {a : Act} {Q : Exit → Act → World → Prop} {w : World} (hgd : o.guard = none) (s x : Operand)
    (ho : o.op = .call { callee := .builtin .append, args := #[s, x], argTypes := #[53, 53] })
    (v : Value) (l : List UInt8) (hs : a.eval s = v) (h : Bts w v l) (b : UInt8) (ad : Addr) (c0 : Nat) (hx : a.eval x = .slice (some ad) 1 c0) (hb : w.cell? ad = some (.int .u8 b.toNat)) (hn : l.length ≤ 1000000000)
    (hk : ∀ v' w', Bts w' v' (l ++ [b]) → Turn (fun k => v.ownBlock = some k) w w' → (v'.ownBlock = v.ownBlock ∨ v'.ownBlock = some w.heap.size) → wpList Try.prog ops Q rest (a.put o.dst v') w') : wpList Try.prog ops Q (o :: rest) a w := by
  refine wpList_plain hgd fun K hK => ?_
  obtain ⟨v', w', hr, h2, h3, h4⟩ := run_append_bts w o.type h b ad c0 hb hn
  unfold Oper.wp execOp
  simp only [ho, resolve, invoke, builtin, Sem.run_bind, Sem.run_pure, Result.andThen_ok, List.map_toArray, List.map_cons, List.map_nil, hs, hx, hr]
  exact hK _ _ (hk v' w' h2 h3 h4)
end Go.Proofs.Ythhjdielananeaa
