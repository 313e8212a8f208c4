/-
  A tick's second half, round by round.
-/
import Derived.Test.YtglnocclhhdbbaaTickA
set_option linter.unusedSimpArgs false
set_option linter.unusedVariables false
set_option maxRecDepth 10000
namespace Go.Proofs.Ytglnocclhhdbbaa
open Go.RowKit Go.Lib
open L3 (Blk Reads block_of_add add_of_add)
open L6 (Turn moreB fresh From In)

def akL (a : Askx) : List Value := [.int .i64 a.n, .int .i64 a.to, .int .i64 a.t]
def akC (a : Askx) : Array Value := #[.int .i64 a.n, .int .i64 a.to, .int .i64 a.t]
theorem akC_ones (x : Askx) : (akC x).all (·.oneCell') = true := by kernel_rfl
theorem one_akL (a : Askx) : ∀ u ∈ akL a, u.oneCell' = true := by intro u hu; simp [akL] at hu; rcases hu with rfl | rfl | rfl <;> rfl
def zeroAk : Askx := ⟨0, 0, 0⟩
theorem akInfo3 : (Try.prog.info? 44).map (fun i => (i.zero, i.size, i.bytes)) = some (some (.agg (akC zeroAk)), 3, 24) := by kernel_rfl
theorem build_ak (n q t : Int) (w : World) : (Instr.build 44 #[(0, .int .i64 n), (1, .int .i64 q), (2, .int .i64 t)]).run Try.prog w = .ok (.agg (akC ⟨n, q, t⟩)) w := run_build w _ _ _ (by kernel_rfl)
theorem slice_ak (x : Askx) (w : World) : (Instr.buildSlice 37 1 #[(0, .agg (akC x))]).run Try.prog w = .ok (.slice (some ⟨w.heap.size, 0, none⟩) 1 1) (w.alloc (.cells (akC x) 44)) := by kernel_rfl
/-- Asked for once more. -/
def inc (x : Wnt) : Wnt := ⟨x.n, x.t + 1⟩
def askOf (f me : Int) (x : Wnt) : Askx := ⟨x.n, whomV f me x.t, x.t⟩
/-- The first k of them asked for once more. -/
def tk (k : Nat) (M : List Wnt) : List Wnt := (M.take k).map inc ++ M.drop k
theorem tk_zero (M : List Wnt) : tk 0 M = M := by simp [tk]
theorem tk_all (M : List Wnt) : tk M.length M = M.map inc := by simp [tk]
theorem tk_len {M : List Wnt} {k : Nat} (h : k ≤ M.length) : (tk k M).length = M.length := by
  unfold tk
  rw [List.length_append, List.length_map, List.length_take, List.length_drop]
  omega
theorem tk_get {M : List Wnt} {k : Nat} (h : k < M.length) : (tk k M)[k]'(by rw [tk_len (Nat.le_of_lt h)]; exact h) = M[k] := by
  unfold tk
  rw [List.getElem_append_right (by rw [List.length_map, List.length_take]; omega), List.getElem_drop]
  congr 1
  rw [List.length_map, List.length_take]
  omega
theorem tk_set {M : List Wnt} {k : Nat} (h : k < M.length) : (tk k M).set k (inc M[k]) = tk (k + 1) M := by
  unfold tk
  have hl : ((M.take k).map inc).length = k := by rw [List.length_map, List.length_take]; omega
  have hd := List.drop_eq_getElem_cons h
  rw [List.set_append_right _ _ (by omega), hl, Nat.sub_self, hd, List.set_cons_zero, List.take_succ_eq_append_getElem h, List.map_append, List.append_assoc]
  rfl
theorem tick_is {s : FS} (h : s.ok) : tickL s.tries s.L = (leftL s.tries s.L).map inc ∧ tickA s.f s.me s.tries s.L = (leftL s.tries s.L).map (askOf s.f s.me) := by
  unfold tickL tickA
  rw [left_is h]
  exact ⟨rfl, rfl⟩
/-- A round's world: the table with its list, and the asks so far. -/
structure TkL (w : World) (S : Nat → Prop) (B g : Nat) (s : FS) (v : Value) (k : Nat) (vl : Value) (M : List Wnt) (W : World) : Prop where
  a : TkA w S B g { s with L := tk k M } v W
  l : W.ownsRow w.heap.size 44 3 vl k (((M.take k).map (askOf s.f s.me)).flatMap akL)
section
variable {w W W' : World} {S : Nat → Prop} {B g : Nat} {s : FS} {v vl : Value} {k : Nat} {M : List Wnt}
theorem TkA.below {s : FS} (h : TkA w S B g s v W) (hb : Below W.heap.size W W') : TkA w S B g s v W' :=
  ⟨h.h.below hb, (show Turn (fun _ => False) W W' from L6.Turn.of_keep hb).row h.row (fun k _ h => h), h.turn.kept hb, h.new, h.sg, h.sk⟩
theorem TkL.below (h : TkL w S B g s v k vl M W) (hb : Below W.heap.size W W') : TkL w S B g s v k vl M W' :=
  ⟨h.a.below hb, (show Turn (fun _ => False) W W' from L6.Turn.of_keep hb).row h.l (fun k _ h => h)⟩
/-- Something of other blocks has turned: a row of asks. -/
theorem TkA.grown {s : FS} {c : Nat} {n : Nat} {xs : List Value} (h : TkA w S B g s v W) (hl : W.ownsRow w.heap.size 44 c vl n xs) (ht : W.grownBy W' vl.ownBlock) : TkA w S B g s v W' := by
  have hT : Turn (fun k => vl.ownBlock = some k) W W' := L6.Turn.of_grown ht (fun _ h => h)
  have h1 : ∀ k, vl.ownBlock = some k → w.heap.size ≤ k := fun k e => (hl.lt k e).1
  refine ⟨h.h.turn hT (row_ne hl h.h.bB (by decide)) (row_ne hl h.h.bg (by decide)), hT.row h.row (fun k e1 e2 => ?_), h.turn.trans hT (fun i e => .inr (h1 i e)), h.new, h.sg, h.sk⟩
  rcases h.row.2 with ⟨hv, _⟩ | ⟨b, cap, cur, hv, _, hh, _⟩
  · rw [hv] at e1; simp [Value.ownBlock] at e1
  · rw [hv] at e1
    have e3 : b = k := by simpa [Value.ownBlock] using e1
    subst e3
    exact row_ne hl (show Blk W b 63 cur from hh) (by decide) e2
/-- One was asked for once more. -/
theorem TkA.tick {s : FS} {b c : Nat} (h : TkA w S B g s (.slice (some ⟨b, 0, none⟩) s.L.length c) W) {k : Nat} (hk : k < s.L.length) (t : Int) :
    TkA w S B g { s with L := s.L.set k ⟨s.L[k].n, t⟩ } (.slice (some ⟨b, 0, none⟩) s.L.length c) (W.setCell ⟨b, k * 2 + 1, none⟩ (.int .i64 t)) := by
  obtain ⟨b', c', hv, _, hX⟩ := row_of h.row (fun e => by rw [e] at hk; simp at hk)
  injection hv with hv1 hv2 hv3
  injection hv1 with hv1
  injection hv1 with hv1
  subst hv1 hv3
  have hT : Turn (fun i => i = b) W (W.setCell ⟨b, k * 2 + 1, none⟩ (.int .i64 t)) := (L6.Turn.refl (fun i => i = b) W).setCell (p := ⟨b, k * 2 + 1, none⟩) (.inl rfl) _
  obtain ⟨cur, hcb, _⟩ := id hX
  have hr := (hX.tick hk t).row (base := 0) (Nat.zero_le _)
  rw [List.length_set] at hr
  have hH := h.h.turn hT (blk_ne h.h.bB hcb (by decide)) (blk_ne h.h.bg hcb (by decide))
  refine ⟨⟨hH.bB, hH.bg⟩, ?_, h.turn.setCell (.inl (h.sk b rfl)) _, h.new, h.sg, h.sk⟩
  show World.ownsRow _ 0 _ 2 _ (s.L.set k ⟨s.L[k].n, t⟩).length _
  rw [List.length_set]
  exact hr
end
end Go.Proofs.Ytglnocclhhdbbaa
