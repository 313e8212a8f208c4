/-
  A tick's first half: those that were asked for as often as may be go.
-/
import Derived.Test.YtglnocclhhdbbaaWhom
set_option linter.unusedSimpArgs false
set_option linter.unusedVariables false
set_option maxRecDepth 10000
namespace Go.Proofs.Ytglnocclhhdbbaa
open Go.RowKit Go.Lib
open L3 (Blk Reads block_of_add add_of_add)
open L6 (Turn moreB fresh From In)

theorem enters_tick : ∀ args w, (callFunc 28 args).run Try.prog w = .ok (.enter 28 args) w := enters_of Try.func28 (by kernel_rfl) rfl
/-- Those that may be asked for once more. -/
def leftL (tries : Int) (L : List Wnt) : List Wnt := L.filter (fun x => !decide (x.t = tries))
theorem left_is {s : FS} (h : s.ok) : leftL s.tries s.L = s.L.filter (fun x => decide (x.t < s.tries)) := by
  unfold leftL
  refine List.filter_congr fun x hx => ?_
  have h1 := (h.t x hx).2
  rw [Bool.eq_iff_iff]
  simp only [Bool.not_eq_true', decide_eq_false_iff_not, decide_eq_true_eq]
  omega
theorem left_fit {s : FS} (h : s.ok ∧ s.fit) : (({ s with L := leftL s.tries s.L } : FS).ok ∧ ({ s with L := leftL s.tries s.L } : FS).fit) := by
  refine ⟨⟨h.1.f1, h.1.f2, h.1.m1, h.1.m2, h.1.most1, h.1.most2, h.1.tr, ?_, h.1.rising.filter _, fun x hx => h.1.t x (List.mem_filter.1 hx).1⟩, h.2.tr, fun x hx => h.2.n x (List.mem_filter.1 hx).1⟩
  show ((leftL s.tries s.L).length : Int) ≤ s.most
  have := List.length_filter_le (fun x : Wnt => !decide (x.t = s.tries)) s.L
  have := h.1.len
  unfold leftL
  omega
/-- What a tick's regions read: the pointer's box, and the table. -/
structure TkH (B g : Nat) (s : FS) (v : Value) (W : World) : Prop where
  bB : Blk W B 24 #[.pointer (some ⟨g, 0, none⟩)]
  bg : Blk W g 58 (ftC s v)
theorem TkH.turn {B g : Nat} {s : FS} {v : Value} {W W' : World} {T : Nat → Prop} (h : TkH B g s v W) (ht : Turn T W W') (h1 : ¬ T B) (h2 : ¬ T g) : TkH B g s v W' := ⟨ht.blk h.bB h1, ht.blk h.bg h2⟩
theorem TkH.below {B g : Nat} {s : FS} {v : Value} {W W' : World} (h : TkH B g s v W) (hb : Below W.heap.size W W') : TkH B g s v W' := h.turn (T := fun _ => False) (L6.Turn.of_keep hb) (fun h => h) (fun h => h)
theorem blk_ne {w : World} {a b : Nat} {t u : TypeId} {cs ds : Array Value} (h : Blk w a t cs) (k : Blk w b u ds) (hne : t ≠ u) : a ≠ b := by
  intro e
  subst e
  have h' : w.heap[a]? = some (.cells cs t (0, 0)) := h
  have k' : w.heap[a]? = some (.cells ds u (0, 0)) := k
  rw [h'] at k'
  injection k' with k'
  injection k' with _ h2 _
  exact hne h2
/-- Behind the first half. -/
structure TkA (w : World) (S : Nat → Prop) (B g : Nat) (s : FS) (v : Value) (W : World) : Prop where
  h : TkH B g s v W
  row : W.ownsRow 0 63 2 v s.L.length (s.L.flatMap wnL)
  turn : Turn S w W
  new : w.heap.size ≤ B
  sg : S g
  sk : ∀ k, v.ownBlock = some k → S k
end Go.Proofs.Ytglnocclhhdbbaa
