/-
  The chapter's examples hold: contract of the laws' common check.
-/
import Derived.Test.YtbgkeanhidokpaaDoorOf
set_option linter.unusedSimpArgs false
set_option linter.unusedVariables false
namespace Go.Proofs.YtbgkeanhidokpaaDoor
open Go.RowKit Go.Lib

theorem below_drewN {B : Nat} {a b : World} (h : Below B a b) (n : Nat) : Below B a (b.drewN n) := ⟨h.os, h.tape, h.output, h.size, h.block⟩
section
variable {P : Program}
theorem wpList_wanted {ops : Array Oper} {rest : List Oper} {o : Oper} {a : Act} {Q : Exit → Act → World → Prop} {w : World} (hw : Region.wanted o (yielded ops a.tmps) = true)
    (h : ∀ K : Act → World → Prop, (∀ a w, wpList P ops Q rest a w → K a w) → o.wp P a w K Q) : wpList P ops Q (o :: rest) a w :=
  wpList_step fun K hK => by rw [if_pos hw]; exact h K hK
/-- One more number behind a row that the call owns, where the append stands behind a guard that is met. -/
theorem wpList_append_one_met {ops : Array Oper} {rest : List Oper} {o : Oper} {a : Act} {Q : Exit → Act → World → Prop} (hw : Region.wanted o (yielded ops a.tmps) = true) (s x : Operand) (t : TypeId)
    (ho : o.op = .call { callee := .builtin .append, args := #[s, x], argTypes := #[t, t] })
    (B : Nat) (e : TypeId) (i : TypeInfo) (z : Value) (bytes : Nat) (ht : P.underlying t = some (.slice e)) (hi : P.info? e = some i) (hz : i.zero = some z) (hsize : i.size = 1) (hby : i.bytes = bytes) (hzs : z.cells.size = 1)
    (v : Value) (n : Nat) (xs : List Value) (hs : a.eval s = v) (W0 w0 : World) (u : Value) (hu : u.oneCell' = true) (hb : OwnBuf B e v n xs W0 w0)
    (hx : a.eval x = .slice (some ⟨w0.heap.size, 0, none⟩) 1 1) (hlen : (n + 1) * bytes ≤ 140737488355328) (hmax : n + 1 ≤ 140737488355328)
    (h : ∀ v' w', OwnBuf B e v' (n + 1) (xs ++ [u]) W0 w' → wpList P ops Q rest (a.put o.dst v') w') : wpList P ops Q (o :: rest) a (w0.alloc (.cells #[u] e)) := by
  have hb' := hb.alloc (.cells #[u] e)
  have hc : ∀ j u', [u][j]? = some u' → (w0.alloc (.cells #[u] e)).cell? ((⟨w0.heap.size, 0, none⟩ : Addr).add j) = some u' := by
    intro j u' hj
    match j, hj with
    | 0, hj => simp at hj; subst hj; simp [Addr.add]
    | (j + 1), hj => simp at hj
  have h1 : ∀ y ∈ [u], y.oneCell' = true := by intro y hy; simp at hy; subst hy; exact hu
  refine wpList_wanted hw fun K hK => ?_
  obtain ⟨v', w', hr, h2, h3, _⟩ := run_append_ownF (P := P) (w0.alloc (.cells #[u] e)) B t o.type e i z 1 bytes ht hi hz hsize hby hzs (by decide) v n xs hb'.1 ⟨w0.heap.size, 0, none⟩ 1 1 [u] rfl hc h1 (by unfold maxLen; omega) hlen hb'.2.2
  unfold Oper.wp execOp
  simp only [ho, resolve, invoke, builtin, Sem.run_bind, Sem.run_pure, Result.andThen_ok, List.map_toArray, List.map_cons, List.map_nil, hs, hx, hr]
  exact hK _ _ (h v' w' (hb'.grown h2 h3))
end
def alivePost (w : World) (e : Ending) (w' : World) : Prop := e = .returned (.bool true) ∧ Below w.heap.size w w'
theorem list_13 (w : World) (hT : Tab w) : Calls Tryd.prog 17 #[.int .u32 13] w fun e w' => ∃ A c, e = .returned (.slice A 3 c) ∧ Reads w' w'.heap.size 1 A 3 (natCells [0, 2, 3]) ∧ Below w.heap.size w w' := by
  have e13 : bts 0 13 = [0, 2, 3] := by
    rw [bts_half, bts_half, bts_half, bts_half, bts_zero]; rfl
  refine (list_any 13 w (by omega) hT).mono ?_
  rintro e w' ⟨v, rfl, ho⟩
  rw [e13] at ho
  obtain ⟨A, c, rfl, hr, hc⟩ := ho.form
  exact ⟨A, c, rfl, hr, ho.below⟩
set_option maxHeartbeats 1000000 in
set_option maxRecDepth 100000 in
theorem alive_any (w : World) (hT : Tab w) : Calls Tryd.prog 7 #[] w (alivePost w) := by
  have HT := Lib.hid hT
  clear hT
  have q2 : ∀ w, Calls Tryd.prog 10 #[.int .i64 2] w fun e w' => e = .returned (.int .i64 5) ∧ w = w' := fun w => quorum_any 2 w
  have s2 : ∀ w, Calls Tryd.prog 12 #[.int .i64 2] w fun e w' => e = .returned (.int .i64 3) ∧ w = w' := fun w => some_any 2 w
  have a3 : ∀ w, Calls Tryd.prog 9 #[.int .i64 3] w fun e w' => e = .returned (.int .i64 10) ∧ w = w' := fun w => all_any 3 w
  go_enter Tryd.func7, Tryd.ntmps7
  go_wp2_with (go_at_call 17; refine (list_13 _ HT.out).mono ?_)
  rintro e w1 ⟨A1, c1, rfl, hr1, hb1⟩
  obtain ⟨ad, u, rfl, _, hx, hc0⟩ := hr1.at_ (k := 0) (by omega)
  obtain rfl : u = .int .i64 0 := by simpa [natCells] using hx.symm
  obtain ⟨_, u1, h1, _, hx1, hc1⟩ := hr1.at_ (k := 1) (by omega)
  obtain rfl : u1 = .int .i64 2 := by simpa [natCells] using hx1.symm
  obtain ⟨_, u2, h2, _, hx2, hc2⟩ := hr1.at_ (k := 2) (by omega)
  obtain rfl : u2 = .int .i64 3 := by simpa [natCells] using hx2.symm
  cases h1
  cases h2
  simp [Addr.add] at hc0 hc1 hc2
  clear hx hx1 hx2 hr1
  go_wp2_with (first
    | (go_at_call 10; refine (q2 _).mono ?_; rintro e w2 ⟨rfl, rfl⟩)
    | (go_at_call 12; refine (s2 _).mono ?_; rintro e w2 ⟨rfl, rfl⟩)
    | (go_at_call 9; refine (a3 _).mono ?_; rintro e w2 ⟨rfl, rfl⟩))
  go_ret
  exact ⟨rfl, hb1⟩
end Go.Proofs.YtbgkeanhidokpaaDoor
