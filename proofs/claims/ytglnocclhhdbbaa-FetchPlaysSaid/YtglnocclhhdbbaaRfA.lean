/-
  The document's table while another one is made of it: what a round's regions read.
-/
import Derived.Test.YtglnocclhhdbbaaRfHas
set_option linter.unusedSimpArgs false
set_option linter.unusedVariables false
set_option maxRecDepth 10000
namespace Go.Proofs.Ytglnocclhhdbbaa
open Go.RowKit Go.Lib
open L3 (Blk Reads block_of_add add_of_add)
open L6 (Turn moreB fresh From In)

/-- The old table at bx, the new one at b; br: what is handed back, empty so far. -/
structure GAt (w : World) (bx b br : Nat) (s : FS) (p q u v : Value) (l m : List Int) (W : World) : Prop where
  x : Blk W bx 30 (rfV s p q)
  y : YAt w b s u v l m W
  xb : bx ≠ b
  r : Blk W br 30 (rfV zeroFS (.slice none 0 0) (.slice none 0 0))
  rb : br ≠ b
/-- What a drawn region reads: the two tables, and a number. -/
structure RdH (bx b : Nat) (s : FS) (p q u v : Value) (ad : Addr) (val : Value) (W : World) : Prop where
  x : Blk W bx 30 (rfV s p q)
  y : Blk W b 30 (rfV s u v)
  e : W.cell? ad = some val
section
variable {w W W' : World} {bx b br : Nat} {s : FS} {p q u v u' : Value} {l m : List Int} {x : Int} {n : Nat} {ad : Addr} {val : Value}
theorem GAt.below (h : GAt w bx b br s p q u v l m W) (hb : Below W.heap.size W W') : GAt w bx b br s p q u v l m W' := ⟨h.x.below hb h.x.lt, h.y.below hb, h.xb, h.r.below hb h.r.lt, h.rb⟩
theorem RdH.below (h : RdH bx b s p q u v ad val W) (hb : Below W.heap.size W W') : RdH bx b s p q u v ad val W' :=
  ⟨h.x.below hb h.x.lt, h.y.below hb h.y.lt, (hb.cell (World.block_lt_of_cell? _ _ h.e)).trans h.e⟩
theorem GAt.hold (h : GAt w bx b br s p q u v l m W) (he : W.cell? ad = some val) : RdH bx b s p q u v ad val W := ⟨h.x, h.y.y, he⟩
/-- Another row has turned. -/
theorem RdH.grown {r : Value} {n base : Nat} {xs : List Value} (h : RdH bx b s p q u v ad val W) (hr : W.ownsRow base 3 1 r n xs) (hg : W.grownBy W' r.ownBlock) (ha : ad.block < base) : RdH bx b s p q u v ad val W' := by
  have hT : Turn (fun k => r.ownBlock = some k) W W' := L6.Turn.of_grown hg (fun _ h => h)
  exact ⟨hT.blk h.x (row_ne hr h.x (by decide)), hT.blk h.y (row_ne hr h.y (by decide)), hT.cell h.e (fun e => by have := (hr.lt _ e).1; omega)⟩
theorem GAt.app4 (h : GAt w bx b br s p q u v l m W) (hl : l.length = n) (hr : W'.ownsRow w.heap.size 3 1 u' (n + 1) (l.map (Value.int .i64) ++ [.int .i64 x])) (hg : W.grownBy W' u.ownBlock) (hat : u'.ownBlock = u.ownBlock ∨ u'.ownBlock = some W.heap.size) :
    GAt w bx b br s p q u' v (l ++ [x]) m (W'.setCell ⟨b, 4, none⟩ u') := by
  have hT : Turn (fun k => u.ownBlock = some k) W W' := L6.Turn.of_grown hg (fun _ h => h)
  have hT2 : Turn (fun k => k = b) W' (W'.setCell ⟨b, 4, none⟩ u') := (L6.Turn.refl (fun k => k = b) W').setCell (p := ⟨b, 4, none⟩) (.inl rfl) u'
  exact ⟨hT2.blk (hT.blk h.x (row_ne h.y.o4 h.x (by decide))) h.xb, h.y.app4 hl hr hg hat, h.xb, hT2.blk (hT.blk h.r (row_ne h.y.o4 h.r (by decide))) h.rb, h.rb⟩
theorem GAt.app5 (h : GAt w bx b br s p q u v l m W) (hl : m.length = n) (hr : W'.ownsRow w.heap.size 3 1 u' (n + 1) (m.map (Value.int .i64) ++ [.int .i64 x])) (hg : W.grownBy W' v.ownBlock) (hat : u'.ownBlock = v.ownBlock ∨ u'.ownBlock = some W.heap.size) :
    GAt w bx b br s p q u u' l (m ++ [x]) (W'.setCell ⟨b, 5, none⟩ u') := by
  have hT : Turn (fun k => v.ownBlock = some k) W W' := L6.Turn.of_grown hg (fun _ h => h)
  have hT2 : Turn (fun k => k = b) W' (W'.setCell ⟨b, 5, none⟩ u') := (L6.Turn.refl (fun k => k = b) W').setCell (p := ⟨b, 5, none⟩) (.inl rfl) u'
  exact ⟨hT2.blk (hT.blk h.x (row_ne h.y.o5 h.x (by decide))) h.xb, h.y.app5 hl hr hg hat, h.xb, hT2.blk (hT.blk h.r (row_ne h.y.o5 h.r (by decide))) h.rb, h.rb⟩
end
theorem lists_snoc {L F : List Wnt} {y : Wnt} (h : L = F ++ [y]) : numsOf L = numsOf F ++ [y.n] ∧ timsOf L = timsOf F ++ [y.t] := by
  subst h
  unfold numsOf timsOf
  rw [List.map_append, List.map_append]
  exact ⟨rfl, rfl⟩
theorem get_nums {L : List Wnt} {k : Nat} (h : k < L.length) : (numsOf L)[k]'(by rw [nums_len]; exact h) = L[k].n := by simp [numsOf]
theorem get_tims {L : List Wnt} {k : Nat} (h : k < L.length) : (timsOf L)[k]'(by rw [tims_len]; exact h) = L[k].t := by simp [timsOf]
/-- What is kept of the first ones. -/
theorem gotL_step {L : List Wnt} {k : Nat} (h : k < L.length) (n : Int) : gotL (L.take (k + 1)) n = if L[k].n = n then gotL (L.take k) n else gotL (L.take k) n ++ [L[k]] := by
  unfold gotL
  rw [filter_snoc h]
  by_cases hn : L[k].n = n
  · rw [if_pos hn, if_neg (by simpa using hn), List.append_nil]
  · rw [if_neg hn, if_pos (by simpa using hn)]
/-- The first k, with one more in its place. -/
def wk (L : List Wnt) (r : Nat) (x : Wnt) (k : Nat) : List Wnt := if k ≤ r then L.take k else insAt (L.take k) r x
section
variable {L : List Wnt} {r k : Nat} {x : Wnt}
theorem wk_zero : wk L r x 0 = [] := by unfold wk; rw [if_pos (Nat.zero_le _), List.take_zero]
theorem wk_lt (h : k < r) (hk : k < L.length) : wk L r x (k + 1) = wk L r x k ++ [L[k]] := by
  unfold wk
  rw [if_pos (by omega), if_pos (by omega), List.take_succ_eq_append_getElem hk]
theorem wk_at (hk : r < L.length) : wk L r x (r + 1) = wk L r x r ++ [x] ++ [L[r]] := by
  unfold wk insAt
  have h1 : (L.take r).length = r := by rw [List.length_take]; omega
  rw [if_neg (by omega), if_pos (Nat.le_refl _), List.take_succ_eq_append_getElem hk, List.take_append_of_le_length (by omega), List.take_of_length_le (by omega), List.drop_append_of_le_length (by omega), List.drop_of_length_le (by omega), List.nil_append]
theorem wk_gt (h : r < k) (hk : k < L.length) : wk L r x (k + 1) = wk L r x k ++ [L[k]] := by
  unfold wk insAt
  have h1 : (L.take k).length = k := by rw [List.length_take]; omega
  rw [if_neg (by omega), if_neg (by omega), List.take_succ_eq_append_getElem hk, List.take_append_of_le_length (by omega), List.drop_append_of_le_length (by omega), List.append_assoc, List.append_assoc, List.append_assoc]
theorem wk_in (h : r < L.length) : wk L r x L.length = insAt L r x := by
  unfold wk
  rw [if_neg (by omega), List.take_length]
theorem wk_end (h : r = L.length) : wk L r x L.length ++ [x] = insAt L r x := by
  unfold wk insAt
  rw [if_pos (by omega), h, List.take_length, List.drop_length, List.append_nil]
theorem wk_len : (wk L r x k).length ≤ k + 1 := by
  unfold wk insAt
  split
  · rw [List.length_take]; omega
  · rw [List.length_append, List.length_append, List.length_take, List.length_drop, List.length_take, List.length_singleton]; omega
end
end Go.Proofs.Ytglnocclhhdbbaa
