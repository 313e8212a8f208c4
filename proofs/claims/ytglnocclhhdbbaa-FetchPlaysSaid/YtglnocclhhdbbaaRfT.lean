/-
  The document's tick: what its rounds read and leave.
-/
import Derived.Test.YtglnocclhhdbbaaRfA
set_option linter.unusedSimpArgs false
set_option linter.unusedVariables false
set_option maxRecDepth 10000
namespace Go.Proofs.Ytglnocclhhdbbaa
open Go.RowKit Go.Lib
open L3 (Blk Reads block_of_add add_of_add)
open L6 (Turn moreB fresh From In)

theorem rakInfo3 : (Try.prog.info? 43).map (fun i => (i.zero, i.size, i.bytes)) = some (some (.agg (akC zeroAk)), 3, 24) := by kernel_rfl
theorem build_rak (n q t : Int) (w : World) : (Instr.build 43 #[(0, .int .i64 n), (1, .int .i64 q), (2, .int .i64 t)]).run Try.prog w = .ok (.agg (akC ⟨n, q, t⟩)) w := run_build w _ _ _ (by kernel_rfl)
theorem slice_rak (x : Askx) (w : World) : (Instr.buildSlice 39 1 #[(0, .agg (akC x))]).run Try.prog w = .ok (.slice (some ⟨w.heap.size, 0, none⟩) 1 1) (w.alloc (.cells (akC x) 43)) := by kernel_rfl
/-- Two rows of unlike elements have no block in common. -/
theorem rows_ne {w : World} {base base' size size' n n' k : Nat} {e e' : TypeId} {u v : Value} {xs ys : List Value} (h : w.ownsRow base e size u n xs) (h' : w.ownsRow base' e' size' v n' ys) (hne : e ≠ e') (h1 : u.ownBlock = some k) (h2 : v.ownBlock = some k) : False := by
  rcases h.2 with ⟨rfl, _⟩ | ⟨b, cap, cur, rfl, _, hh, _⟩
  · simp [Value.ownBlock] at h1
  · have e1 : b = k := by simpa [Value.ownBlock] using h1
    subst e1
    exact row_ne h' (show Blk w b e cur from hh) (fun e => hne e.symm) h2
theorem tick_step {L : List Wnt} {k : Nat} (h : k < L.length) (f me tries : Int) :
    tickL tries (L.take (k + 1)) = (if L[k].t < tries then tickL tries (L.take k) ++ [inc L[k]] else tickL tries (L.take k)) ∧
    tickA f me tries (L.take (k + 1)) = (if L[k].t < tries then tickA f me tries (L.take k) ++ [askOf f me L[k]] else tickA f me tries (L.take k)) := by
  unfold tickL tickA
  rw [filter_snoc h]
  by_cases hn : L[k].t < tries
  · rw [if_pos hn, if_pos hn, if_pos (by simpa using hn), List.map_append, List.map_append]
    exact ⟨rfl, rfl⟩
  · rw [if_neg hn, if_neg hn, if_neg (by simpa using hn), List.append_nil]
    exact ⟨rfl, rfl⟩
theorem asks_len (f me tries : Int) (L : List Wnt) : (tickA f me tries L).length = (tickL tries L).length := by
  unfold tickL tickA
  rw [List.length_map, List.length_map]
theorem tick_le (tries : Int) (L : List Wnt) : (tickL tries L).length ≤ L.length := by
  unfold tickL
  rw [List.length_map]
  exact List.length_filter_le _ _
/-- In W a row of asks. -/
abbrev OwnK (W : World) (base : Nat) (v : Value) (l : List Askx) : Prop := W.ownsRow base 43 3 v l.length (l.flatMap akL)
theorem ownK_nil (w : World) (base : Nat) : OwnK w base (.slice none 0 0) [] := ⟨by simp, .inl ⟨rfl, rfl⟩⟩
theorem ownK_snoc {w : World} {base : Nat} {v : Value} {l : List Askx} {x : Askx} {k : Nat} (hk : l.length = k) (h : w.ownsRow base 43 3 v (k + 1) (l.flatMap akL ++ akL x)) : OwnK w base v (l ++ [x]) := by
  have e1 : (l ++ [x]).length = k + 1 := by simp [hk]
  have e2 : (l ++ [x]).flatMap akL = l.flatMap akL ++ akL x := by simp
  unfold OwnK
  rw [e1, e2]
  exact h
/-- What a round's ask reads. -/
structure RdT (bx : Nat) (s : FS) (p q : Value) (a4 a5 : Addr) (n t : Int) (W : World) : Prop where
  x : Blk W bx 30 (rfV s p q)
  e4 : W.cell? a4 = some (.int .i64 n)
  e5 : W.cell? a5 = some (.int .i64 t)
theorem RdT.below {bx : Nat} {s : FS} {p q : Value} {a4 a5 : Addr} {n t : Int} {W W' : World} (h : RdT bx s p q a4 a5 n t W) (hb : Below W.heap.size W W') : RdT bx s p q a4 a5 n t W' :=
  ⟨h.x.below hb h.x.lt, (hb.cell (World.block_lt_of_cell? _ _ h.e4)).trans h.e4, (hb.cell (World.block_lt_of_cell? _ _ h.e5)).trans h.e5⟩
theorem RdT.grown {bx : Nat} {s : FS} {p q : Value} {a4 a5 : Addr} {n t : Int} {W W' : World} {r : Value} {m base : Nat} {xs : List Value} (h : RdT bx s p q a4 a5 n t W) (hr : W.ownsRow base 43 3 r m xs) (hg : W.grownBy W' r.ownBlock) (h4 : a4.block < base) (h5 : a5.block < base) : RdT bx s p q a4 a5 n t W' := by
  have hT : Turn (fun k => r.ownBlock = some k) W W' := L6.Turn.of_grown hg (fun _ h => h)
  exact ⟨hT.blk h.x (row_ne hr h.x (by decide)), hT.cell h.e4 (fun e => by have := (hr.lt _ e).1; omega), hT.cell h.e5 (fun e => by have := (hr.lt _ e).1; omega)⟩
/-- A row of asks has turned: the tables stay. -/
theorem GAt.asks {w W W' : World} {bx b br : Nat} {s : FS} {p q u v r : Value} {l m : List Int} {n : Nat} {xs : List Value} (h : GAt w bx b br s p q u v l m W) (hr : W.ownsRow w.heap.size 43 3 r n xs) (hg : W.grownBy W' r.ownBlock) : GAt w bx b br s p q u v l m W' := by
  have hT : Turn (fun k => r.ownBlock = some k) W W' := L6.Turn.of_grown hg (fun _ h => h)
  exact ⟨hT.blk h.x (row_ne hr h.x (by decide)),
    ⟨hT.blk h.y.y (row_ne hr h.y.y (by decide)), hT.row h.y.o4 (fun k e1 e2 => rows_ne h.y.o4 hr (by decide) e1 e2), hT.row h.y.o5 (fun k e1 e2 => rows_ne h.y.o5 hr (by decide) e1 e2), h.y.ne, h.y.bw.trans (hT.below (fun k e => (hr.lt k e).1) h.y.bw.size), h.y.ge⟩,
    h.xb, hT.blk h.r (row_ne hr h.r (by decide)), h.rb⟩
/-- What the document's tick tells. -/
def RTickPost (s : FS) (w : World) (e : Ending) (w' : World) : Prop :=
  ∃ A c B d v, e = .returned (.tuple #[.agg (rfV s (.slice A (tickL s.tries s.L).length c) (.slice B (tickL s.tries s.L).length d)), v]) ∧ OwnK w' w.heap.size v (tickA s.f s.me s.tries s.L) ∧ RdI w' A (numsOf (tickL s.tries s.L)) ∧ RdI w' B (timsOf (tickL s.tries s.L)) ∧
    (∀ ad, A = some ad → w.heap.size ≤ ad.block ∧ ad.block < w'.heap.size) ∧ (∀ ad, B = some ad → w.heap.size ≤ ad.block ∧ ad.block < w'.heap.size) ∧ Below w.heap.size w w'
end Go.Proofs.Ytglnocclhhdbbaa
