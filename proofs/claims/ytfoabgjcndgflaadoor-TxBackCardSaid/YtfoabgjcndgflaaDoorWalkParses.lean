/-
  The walk through the law of what words say.
-/
import Derived.Test.YtfoabgjcndgflaaDoorAlive
import Derived.Test.YtfoabgjcndgflaaDoorRefParseT
set_option linter.unusedSimpArgs false
set_option linter.unusedVariables false
namespace Go.Proofs.YtfoabgjcndgflaaDoor
open Go.RowKit Go.Lib

/-- Two structs held against each other. -/
theorem wpList_binop {P : Program} {ops : Array Oper} {rest : List Oper} {o : Oper} {a : Act} {w : World} {Q : Exit → Act → World → Prop} (hw : Region.wanted o (yielded ops a.tmps) = true) (op : BinOp) (t : TypeId) (x y : Operand) (u : TypeId) (ho : o.op = .binOp op t x y u) (xs ys : Array Value)
    (hx : a.eval x = .agg xs) (hy : a.eval y = .agg ys) (hm : P.eqGuardType P.depth t = false) {v : Value} (hrun : (binOp op t (.agg xs) (.agg ys)).run P w = .ok v w)
    (h : wpList P ops Q rest (a.put o.dst v) w) : wpList P ops Q (o :: rest) a w :=
  wpList_wanted hw fun _ hK => by
    unfold Oper.wp
    simp only [execOp, ho, hx, hy, Sem.run_bind, run_eqGuard_agg w op t x y xs ys hm, hrun, Result.andThen_ok, Sem.run_pure]
    exact hK _ _ h
theorem eql_same {n : Nat} {x : Txx} (h : x.wf n) (hn : n ≤ maxLen) (w : World) : (binOp .eql 23 (.agg (txC x)) (.agg (txC x))).run Tryd.prog w = .ok (.bool true) w := by
  have := eqlX h h hn w
  simpa using this
/-- What words say is right. -/
theorem rightO_right {x t : Txx} (h : rightO x = some t) : right t = true := by
  unfold rightO at h
  split at h
  · next hr => injection h with h; rw [← h]; exact hr
  · cases h
theorem form_right {a : List (List UInt8)} {z : List UInt8} {t : Txx} (h : formT a z = some t) : right t = true := by
  unfold formT at h
  split at h
  · cases h
  · split at h
    · cases h
    · split at h
      · split at h
        · cases h
        · exact rightO_right h
      · split at h
        · exact rightO_right h
        · cases h
theorem parse_wf (l : List UInt8) : ((parseT l).getD zeroX).wf 128 := by
  cases h : parseT l with
  | none => exact zeroX_wf _
  | some t =>
    unfold parseT at h
    rw [Option.bind_eq_some_iff] at h
    obtain ⟨p, _, h2⟩ := h
    exact right_wf (form_right h2)
namespace lawParsesWalk
set_option maxHeartbeats 1000000 in
set_option maxRecDepth 100000 in
theorem great_walk (l : List UInt8) (w : World) (hT : Tabs w) (hg : 2000 < l.length) : Calls Tryd.prog 4 #[.string (str l)] w (gives (.bool true) w) := by
  have hal := alive_any w hT
  have hz := str_size l
  clear hT
  go_enter Tryd.func4, Tryd.ntmps4
  go_wp2_with (first
    | (go_at_call 6; refine hal.mono ?_; unfold gives; rintro e w1 ⟨rfl, hb1⟩))
  go_ret
  exact ⟨rfl, hb1⟩
set_option maxHeartbeats 4000000 in
set_option maxRecDepth 100000 in
theorem small_walk (l : List UInt8) (w : World) (hT : Tabs w) (hg : l.length ≤ 2000) : Calls Tryd.prog 4 #[.string (str l)] w (gives (.bool true) w) := by
  have hal := alive_any w hT
  have hz := str_size l
  have hpa := fun W hW => parse_any l W (by omega) hW
  have hrp := fun W => refparse_any l W (by omega)
  unfold outP at hpa
  unfold outR at hrp
  have hwf := parse_wf l
  have HT := Lib.hid (fun w' (hb : Below w.heap.size w w') => hT.kept hb)
  obtain ⟨x, hx⟩ : ∃ x, x = (parseT l).getD zeroX := ⟨_, rfl⟩
  rw [← hx] at hpa hrp hwf
  have heq := fun W => eql_same hwf (show 128 ≤ maxLen by unfold maxLen; omega) W
  rcases Bool.eq_false_or_eq_true (parseT l).isSome with ho | ho
  all_goals
    rw [ho] at hpa hrp
    have HH := Lib.hid (And.intro hal (And.intro hpa (And.intro hrp heq)))
    clear hal hpa hrp heq hwf hx ho hT
    go_enter Tryd.func4, Tryd.ntmps4
    go_wp2_with (first
      | (go_at_call 6; refine HH.out.1.mono ?_; unfold gives; rintro e w1 ⟨rfl, hb1⟩)
      | (go_at_call 14; refine (HH.out.2.1 _ (HT.out _ hb1)).mono ?_; unfold gives; rintro e w2 ⟨rfl, hb2⟩; replace hb2 := (nxt hb1 hb2).alloc (nxt hb1 hb2).size (.cells (txC x) 23); have k2 := box_new w2 23 x)
      | (refine wpList_store_new rfl _ _ _ rfl _ (txC x) rfl rfl _ _ (by kernel_rfl) rfl (txC_ones _) ?_)
      | (go_at_call 15; refine (HH.out.2.2.1 _).mono ?_; unfold gives; rintro e w3 ⟨rfl, hb3⟩; have k3 := (k2.below hb3 k2.lt).alloc (.cells (txC x) 23); have k4 := box_new w3 23 x; replace hb3 := (nxt hb2 hb3).alloc (nxt hb2 hb3).size (.cells (txC x) 23))
      | (refine wpList_row_at rfl _ _ rfl (w2.heap.size) rfl _ _ _ _ k3 Tryd.underlying23 rfl (by kernel_rfl) ?_)
      | (refine wpList_row_at rfl _ _ rfl (w3.heap.size) rfl _ _ _ _ k4 Tryd.underlying23 rfl (by kernel_rfl) ?_)
      | (refine wpList_binop rfl _ _ _ _ _ rfl (txC x) (txC x) rfl rfl (by kernel_rfl) (HH.out.2.2.2 _) ?_))
    go_ret
    exact ⟨rfl, hb3⟩
theorem walk (s : ByteArray) (w : World) (hT : Tabs w) : Calls Tryd.prog 4 #[.string s] w fun e w' => e = .returned (.bool true) ∧ Below w.heap.size w w' := by
  have h : s = str s.data.toList := (str_of s).symm
  rw [h]
  rcases Nat.lt_or_ge 2000 s.data.toList.length with hg | hg
  · exact great_walk _ w hT hg
  · exact small_walk _ w hT hg
end lawParsesWalk
end Go.Proofs.YtfoabgjcndgflaaDoor
