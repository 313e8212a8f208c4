/-
  What shares show, and whom a coin elects: contracts of a coin's calls.
-/
import Derived.Test.YtjkfogjhakcnfaaDoorCoinB
import Derived.OrdersHeld
import Derived.StillTail
import Derived.StillTactics
set_option linter.unusedSimpArgs false
set_option linter.unusedVariables false
namespace Go.Proofs.YtjkfogjhakcnfaaDoor
open Go.RowKit Go.Maps Go.Lib

/-- A callee that keeps what is held: what it hands back is known. -/
theorem wpQuiet_fn {P : Program} {ops : Array Oper} {S : World → Prop} {o : Oper} {rest : List Oper} {a : Act} {Qa : Act → Prop} (hg : Region.wanted o (yielded ops a.tmps) = true) (f : FuncId) (xs : Array Operand) (ts : Array TypeId)
    (ho : o.op = .call { callee := .value (.func f), args := xs, argTypes := ts }) (hc : ∀ args w, (callFunc f args).run P w = .ok (.enter f args) w) (args : List Value) (ha : xs.toList.map a.eval = args) {v : Value}
    (hv : ∀ x : WorldIn S, Calls P f args.toArray x.w fun e w' => e = .returned v ∧ S w')
    (h : wpQuiet P ops (fun w' => ∃ x : WorldIn S, w' = x.w) Qa rest (a.put o.dst v)) : wpQuiet P ops (fun w' => ∃ x : WorldIn S, w' = x.w) Qa (o :: rest) a := by
  refine wpQuiet_call hg f args.toArray (fun w => ?_) hv h
  have ha' : xs.map a.eval = args.toArray := by apply Array.toList_inj.1; rw [Array.toList_map]; exact ha
  simp [execOp, ho, resolve, invoke, Deferred.ofValue, hc, ← ha', Act.eval]
theorem cenough_nil (c : Nat) (u : Int) (n : Nat) (w : World) : Calls Tryd.prog 30 #[.pointer (some ⟨c, 0, none⟩), .pointer none, .int .i64 u, .int .u32 n] w fun e w' => e = .returned (.int .i64 3) ∧ w = w' := by
  go_enter Tryd.func30, Tryd.ntmps30
  go_wp2
  go_ret
  exact ⟨rfl, rfl⟩
/-- What shows a view's coin. -/
def cenE (f h : Int) (bad : Nat) (L : List Shr) (u : Int) (n : Nat) : Int := if h = f then enoughE h bad L (coinS u) n (f + 1) else 1
set_option maxHeartbeats 1000000 in
set_option maxRecDepth 100000 in
theorem cenough_any (S T : Nat → Prop) (c g m : Nat) (f h : Int) (bad : Nat) (G : List (Int × Int)) (N : List Int) (L : List Shr) (u : Int) (n : Nat) (w : World) (hC : Cn w S c f G N m) (hS : Sg w T g h bad L) (hu : inI u) (hbad : bad < 4294967296) (hn : n < 4294967296) (hT : Tab w) :
    Calls Tryd.prog 30 #[.pointer (some ⟨c, 0, none⟩), .pointer (some ⟨g, 0, none⟩), .int .i64 u, .int .u32 n] w fun e w' => e = .returned (.int .i64 (cenE f h bad L u n)) ∧ Below w.heap.size w w' := by
  have hF := fun W (hW : Below w.heap.size w W) => f_any T g h bad L W (hS.below hW)
  obtain ⟨b, D, hb, hm, hf, h1, h2, h3, h4⟩ := hC
  have c0 := hb.cell 0
  have hlt := hb.lt
  have hmore : more 1 f = f + 1 := by unfold more; rw [if_pos h3]; omega
  have hsome := some_any f
  rw [hmore] at hsome
  unfold cenE
  by_cases he : h = f
  · rw [if_pos he]
    have hq : (h == f) = true := by simpa using he
    have hq' : (h != f) = false := by simp [he]
    have hen : ∀ W, Below w.heap.size w W → Calls Tryd.prog 41 #[.pointer (some ⟨g, 0, none⟩), .agg (stmC (coinS u)), .int .u32 n, .int .i64 (f + 1)] W fun e w' => e = .returned (.int .i64 (enoughE h bad L (coinS u) n (f + 1))) ∧ Below w.heap.size w w' := fun W hW =>
      (enough_any T g h bad L (coinS u) n (f + 1) W (hS.below hW) (coinS_wf hu) hbad hn (hT.kept hW)).mono fun e w' ⟨he, hb⟩ => ⟨he, nxt hW hb hW.size⟩
    have HH := Lib.hid (And.intro hsome (And.intro hen hF))
    obtain ⟨r, hr⟩ : ∃ r, r = enoughE h bad L (coinS u) n (f + 1) := ⟨_, rfl⟩
    rw [← hr] at HH ⊢
    clear hm hf h1 h2 h4 hb hsome hen hF hS hT he hr
    go_enter Tryd.func30, Tryd.ntmps30
    go_wp2
    go_quiet ((go_at_call 40; exact quiet_left (HH.out.2.2 _ (below_drewN (Below.refl _ _) _))))
    go_wp2
    have ne : Nonempty (WorldIn (Below w.heap.size w)) := ⟨⟨w, Below.refl _ _⟩⟩
    have p0 : ∀ y : WorldIn (Below w.heap.size w), y.w.cell? ⟨c, 0, none⟩ = some (.int .i64 f) := fun y => (y.h.cell (p := ⟨c, 0, none⟩) hlt).trans c0
    refine wp_region_S (Below w.heap.size w) (by kernel_rfl) (by kernel_rfl) (below_drew (below_drewN (Below.refl _ _) _)) ?_
    go_big_quiet_step (fail)
    go_big_quiet_step (fail)
    refine wpQuiet_fn rfl 15 _ _ rfl Tryd.call15 [.int .i64 u] rfl (v := .agg (stmC (coinS u))) (fun x => (stmt_any u x.w).mono fun e w' ⟨he, hb⟩ => ⟨he, nxt x.h hb x.h.size⟩) ?_
    conv => arg 6; simp only [Act.put, List.setIfInBounds_toArray, List.set_cons_zero, List.set_cons_succ]
    go_big_quiet_step (fail)
    go_big_quiet_step (fail)
    go_big_quiet_step (fail)
    go_big_quiet_step (fail)
    go_big_quiet_step (fail)
    refine wpQuiet_fn rfl 42 _ _ rfl Tryd.call42 [.int .i64 f] rfl (v := .int .i64 (f + 1)) (fun x => (HH.out.1 x.w).mono fun e w' ⟨he, hb⟩ => ⟨he, hb ▸ x.h⟩) ?_
    conv => arg 6; simp only [Act.put, List.setIfInBounds_toArray, List.set_cons_zero, List.set_cons_succ]
    refine wpQuiet_fn rfl 41 _ _ rfl Tryd.call41 [.pointer (some ⟨g, 0, none⟩), .agg (stmC (coinS u)), .int .u32 n, .int .i64 (f + 1)] rfl (v := .int .i64 r) (fun x => HH.out.2.1 x.w x.h) ?_
    conv => arg 6; simp only [Act.put, List.setIfInBounds_toArray, List.set_cons_zero, List.set_cons_succ]
    go_big_quiet_step (fail)
    refine wpQuiet_nil ?_
    intro x
    obtain ⟨W, hW⟩ := x
    dsimp only
    go_wp2
    go_ret
    exact ⟨rfl, hW⟩
  · rw [if_neg he]
    have hq : (h == f) = false := by simpa using he
    have hq' : (h != f) = true := by simpa using he
    have HH := Lib.hid hF
    clear hm hf h1 h2 h4 hb hsome hF hS hT he
    go_enter Tryd.func30, Tryd.ntmps30
    go_wp2
    go_quiet ((go_at_call 40; exact quiet_left (HH.out _ (below_drewN (Below.refl _ _) _))))
    go_wp2
    go_ret
    exact ⟨rfl, below_drewN (Below.refl _ _) _⟩
end Go.Proofs.YtjkfogjhakcnfaaDoor
